import PyProof.Rows.All
import Wide.All
import OpenK.AllK
import Wide.FinOn
import PyProof.ReprReads
import PyProof.ReprRoads
import HandS.Base
import HandS.Call
import HandS.List
import HandS.Words
import HandS.Ends
import HandS.Comp
import HandS.IsInst
import HandS.Text
import HandS.Iter
import HandS.Dict
import HandS.Flow
import HandS.Sort
import HandS.TupAny
import HandS.TupMul
import HandS.Star
import HandS.Strs
import HandS.TupSets
import HandS.Zip
import HandS.More
import HandS.Small
import PyProof.ReprLen
import PyProof.EnumMake
import PyProof.EnumIter
import PyProof.TupleIter
import PyProof.StrLawsRepr
import PyProof.FitsInt
import KE.KExcIs
import KE.KIsAll
import PySem.Challenge.RW_cutoutpieces_k11_words_of_any_value
set_option Elab.async false
set_option linter.all false
set_option maxRecDepth 100000
set_option maxHeartbeats 2000000
namespace L2
namespace KG
open PySem PySem.Spec PyProof.Rows
/-! ### promises kept where no repr runs around -/
structure FnG (P : Program) (w : World) (K : PySem.W.Frag) (mg : Str → Option Value) (base : Heap) (k : Nat) (f : Addr) (fd : FuncData) (ps : List Str) (sp : Sp) : Prop where
  len : ∀ vs H Q E, sp vs H Q E → vs.length = ps.length
  run : ∀ (A : Around) (outer : List Env) (s : Shared) (H : Hp) (args : Args) (us : List Value) (vs : List V) (Q : VK) (E : XK), A.guards = some [] → Room k A → Env0 P w K mg base A outer s H → BindsTo s fd args (ps.zip us) → Vals vs us → sp vs H Q E →
    codeAny (model P w) A (.call (.ref f) args) (CR CX0 outer P w H s Q E) s
section
variable {P : Program} {w : World} {K : PySem.W.Frag} {mg : Str → Option Value} {base : Heap} {k : Nat} {f : Addr} {fd : FuncData} {ps : List Str} {sp : Sp}
theorem FnG.of (F : FnOk P w K mg base CX0 k f fd ps sp) : FnG P w K mg base k f fd ps sp := ⟨F.len, fun A outer s H args us vs Q E _ => F.run A outer s H args us vs Q E⟩
theorem guards_deeper (A : Around) (env : Env) : (A.deeper env).guards = A.guards := rfl
/-- a def by its body, which may lean on the guards -/
theorem okG {x qual : Str} {st : Stmt} {N : List Str} (F : Fun K x qual st f fd) (S : FnScope N ps (defScope st)) (len : ∀ vs H Q E, sp vs H Q E → vs.length = ps.length)
    (hbody : ∀ (cdv : Value) (A : Around) (outer : List Env) (s : Shared) (H : Hp) (vs : List V) (Q : VK) (E : XK), A.guards = some [] → Room k (A.deeper (envOfC qual (defScope st) s.heap.objs.size f cdv)) → sp vs H Q E →
      ∃ t, PSs (cxOf CX0 P w K mg base N qual (defScope st) f cdv A outer s H E).nox (defBody st) t ∧ t { nx := fun _ H' => Q .non H', rt := Q } (start N vs) H) : FnG P w K mg base (k + 1) f fd ps sp := by
  constructor
  · exact len
  intro A outer s H args us vs Q E hg hr e0 hb r hsp
  obtain ⟨oc, od, kV, doc, pm, an, cdv, ct, osl, hfd, hl, hc⟩ := F.ex
  subst hfd
  have inK : K.In s.heap := e0.mod.kin.keeps fun b o z => (e0.bs b o z).1
  have places : ∀ y ∈ ps.zip us, (defScope st).names.lookup y.1 = some .local ∨ ((defScope st).names.lookup y.1 = some .cell ∧ ((cellsFrom (s.heap.objs.size + 1) (defScope st).names []).lookup y.1).isSome = true) := by
    intro y hy
    obtain ⟨n, v⟩ := y
    rcases S.par n (List.of_mem_zip hy).1 with z | z
    · exact .inl z
    · exact .inr ⟨z, PySem.W.cellsFrom_some _ _ _ (.inl z)⟩
  refine codeAny_call_function hr.depth (inK _ _ hl) rfl S.co S.gen rfl (PySem.W.codeRec_of inK hc) (hb _ _ _ _ (wpAny_newFunctionEnv_cells S.kind places (fun env he s1 y => ?_))) 
  subst he
  have lim : s.heap.NoLimit := e0.mod.nolimit.keeps fun b o z => (e0.bs b o z).1
  obtain ⟨t, ht, hq⟩ := hbody cdv A outer s H vs Q E hg (hr.deeper _) hsp
  have I := inv_start (CX := CX0) (P := P) (w := w) (mg := mg) (base := base) (N := N) (qual := qual) (f := f) (cd := cdv) (outer := outer) (E := E) S hr.hd e0 (len _ _ _ _ hsp) r y
  refine ⟨lim.keeps y.toInCall.keep, codeAny_func (wpAny_mono (ht.nox.run [] s1 (start N vs) H _ I hq) (fun fl s' hs => ?_) (fun _ _ hs => hs))⟩
  cases fl with
  | brk => exact hs.elim fun _ z => z.elim fun _ z => z.2.elim
  | cont => exact hs.elim fun _ z => z.elim fun _ z => z.2.elim
  | next =>
    obtain ⟨σ', H', J, q⟩ := hs
    exact ⟨.non, H', J.os, J.bare, J.base, J.hok, rfl, q⟩
  | ret u =>
    obtain ⟨v, σ', H', J, rv, q⟩ := hs
    exact ⟨v, H', J.os, J.bare, J.base, J.hok, rv, q⟩
end
section
variable {X : Cx} {k : Nat} {f : Addr} {fd : FuncData} {ps : List Str} {sp : Sp} {x : Str} {p pos : Pos} {e : Expr} {es : List Expr} {t : TA}
/-- f(e, ..) -/
theorem pe_callG (F : FnG X.prog X.w X.K X.mg X.base k f fd ps sp) (hgd : X.A.guards = some []) (hr : Room k X.A) (hg : Gl X x) (hm : X.mg x = some (.ref f)) (hk : PySem.W.keepIn X.K (.ref f) = true) (hb : Binds X.K fd ps []) (ha : PA X (e :: es) t)
    (hdb : (x == ("__debug__" : Str)) = false := by decide) (he : starEach (e :: es) X.env = (false, eval e X.env) :: starEach es X.env := by rfl) (hpl : (backTo pos (starEach es X.env)).any (·.1) = false := by rfl) :
    PE X (.Call (.Name x p) (e :: es) [] pos) (tCall sp [] E0 t) := by
  constructor
  intro pins s σ H Q I h
  refine wpAny_Call_Name_kw (ld_glob I hg hm (PySem.W.callWith_K (h₀ := X.base) I.ok.mod.kin hk (thn (ha.run pos pins s σ H _ I h) (fun us s1 hh => ?_)) he hpl) hdb)
  obtain ⟨vs, H1, I1, r, q⟩ := hh
  refine ⟨I1.kIn, ?_⟩
  have q' : sp vs H1 Q E0 := by
    have q0 : sp (vs ++ []) H1 Q E0 := q
    rwa [List.append_nil] at q0
  have hlen : us.length = ps.length := by rw [← r.length]; exact F.len _ _ _ _ q'
  have b := hb s1 us I1.kIn (by rw [List.append_nil]; exact hlen)
  rw [List.append_nil] at b
  refine wpAny_call (codeAny_mono (F.run X.A X.stack s1 H1 ⟨us, []⟩ us vs Q E0 hgd hr I1.env0 b r q') (fun r2 s' hq => ?_))
  cases r2 with
  | error e => exact hq.elim
  | ok fl =>
    cases fl with
    | ret u => exact I1.after hq
    | next => exact hq.elim
    | brk => exact hq.elim
    | cont => exact hq.elim
end
end KG
end L2
namespace L2
namespace KBag
open PySem PySem.Spec PyProof.Rows
def top (i : Nat) : Stmt := PySem.Challenge.pw_cutoutpieces_k11_words_of_any_value.main.body.getD i (.Pass ⟨0, 0, 0, 0⟩)
abbrev sBag : Stmt := top 63
abbrev sTake : Stmt := top 64
/-! ### xs[i] by values, from the front -/
def rGetL (K : PySem.W.Frag) : V → V → Hp → VK → Prop := fun o i H Q => ∃ p xs k v, o = .ref p ∧ i = .int k ∧ 0 ≤ k ∧ SqL K H p xs ∧ xs[k.toNat]? = some v ∧ Q v H
theorem get_list {X : Cx} : PGet X (rGetL X.K) := by
  intro pins s σ H o i ov iv Q I ro ri h
  obtain ⟨p, xs, k, v, rfl, rfl, h0, hq, hx, q⟩ := h
  cases ro
  obtain ⟨t, rfl⟩ := ri
  obtain ⟨its, r, pl, hz⟩ := I.list hq
  obtain ⟨w, ew, rw'⟩ := r.get hx
  have hl := r.length
  have hn := line63
  have hk : k.toNat < xs.length := (List.getElem?_eq_some_iff.mp hx).1
  exact wpAny_getItem_list (x := w) pl.isList h0 (by omega) (by simpa using ew) ⟨v, H, I, rw', q⟩
theorem yes_ {σ : St} {H : Hp} {A B : Hp → Prop} (h : A H) : tYes σ H (fun b H3 => if b = true then A H3 else B H3) := by
  show (if true = true then A H else B H)
  rw [if_pos rfl]
  exact h
def ifBody : Stmt → List Stmt
  | .If _ b _ _ => b
  | _ => []
/-! ### the bag -/
/-- at p: the bag; at c: its cells -/
def Bag (H : Hp) (p c : Addr) : Prop := ∃ (d m i : Int) (ns : List Int), H p = some (.lst [.int d, .int m, .int i, .ref c]) ∧ H c = some (.lst (ns.map V.int)) ∧ c ≠ p ∧ 0 ≤ d ∧ 0 ≤ m ∧ m < 2147483647 ∧ 0 ≤ i ∧ ∀ n ∈ ns, 0 ≤ n
theorem Bag.keep {H H' : Hp} {p c : Addr} (s : Same H H') (b : Bag H p c) : Bag H' p c := by
  obtain ⟨d, m, i, ns, h1, h2, r⟩ := b
  exact ⟨d, m, i, ns, s _ _ h1, s _ _ h2, r⟩
def spBag (K : PySem.W.Frag) : Sp := fun vs H Q _ => ∃ (a : Addr) (ns : List Int), vs = [.ref a] ∧ SqL K H a (ns.map V.int) ∧ ns.length ≤ 1000 ∧ ∀ (H' : Hp) (p c : Addr), Same H H' → H p = none → H c = none → Bag H' p c → Q (.ref p) H'
/-- a draw: some number below many; of the bag alone something may change -/
def spTake : Sp := fun vs H Q _ => ∃ (p c : Addr) (n : Int), vs = [.ref p, .int n] ∧ Bag H p c ∧ 0 < n ∧ n < 1073741824 ∧ ∀ (v : Int) (xs : List V), 0 ≤ v → v < n → Bag (upd H p (.lst xs)) p c → Q (.int v) (upd H p (.lst xs))
section
variable {P : Program} {w : World} {K : PySem.W.Frag} {mg : Str → Option Value} {base : Heap}
theorem scB : FnScope ["_law_script", "_law_cell"] ["_law_script"] (defScope sBag) := ⟨rfl, rfl, rfl, by decide +kernel, rfl, by decide +kernel, by decide +kernel⟩
theorem cut63 (ns : List Int) (h : ns.length ≤ 1000) : ∃ ms : List Int, cutV (ns.map V.int) none (some 63) = ms.map V.int ∧ ms.length ≤ 1000 := by
  refine ⟨(ns.drop (HT.sIx ns.length 0 none)).take (HT.sIx ns.length ns.length (some 63) - HT.sIx ns.length 0 none), ?_, ?_⟩
  · unfold cutV
    simp only [List.length_map, List.map_take, List.map_drop]
  · simp only [List.length_take, List.length_drop]
    omega
theorem ok_bag {f : Addr} {fd : FuncData} (F : Fun K "_law_bag" "_law_bag" sBag f fd) (zA : mg "abs" = none) : FnOk P w K mg base CX0 1 f fd ["_law_script"] (spBag K) := by
  refine F.ok scB (fun vs H Q E h => ?_) (fun cdv A outer s H vs Q E hr h => ?_)
  · obtain ⟨a, ns, rfl, _⟩ := h
    rfl
  · obtain ⟨a, ns, rfl, hS, hlen, k⟩ := h
    refine ⟨_, pss_one (ps_ret (pe_lst (pa_cons pe_int (pa_cons pe_int (pa_cons pe_int (pa_cons (pe_lc (own := [("_law_cell", 1)]) (g := gName 1) (tt := tYes) (by rfl) scB.nd (pi_list (pe_slice sl_list (pv 0) po_none (po_some pe_int))) (blkOk_by (own := [("_law_cell", 1)]) (N := ["_law_script", "_law_cell"]) (sc := defScope sBag) (by decide +kernel)) (fun _ _ _ _ _ => pg_name (i := 1) scB.nd rfl (Or.inl rfl)) (fun _ _ _ _ _ => pts_nil) (fun _ _ _ _ _ => pe_callB call_abs (by rfl) zA (by decide +kernel) (pa_cons (pv 1) pa_nil))) pa_nil)))))), ?_⟩
    obtain ⟨ms, hms, hml⟩ := cut63 ns hlen
    refine ⟨_, rfl, _, rfl, a, _, rfl, hS, fun l0 hl0 => ?_⟩
    rw [hms]
    refine ⟨l0, rfl, ⟨_, SqL.of upd_same⟩, fun D hD => ?_⟩
    have nD : D ≠ l0 := fun z => by rw [z, upd_same] at hD; cases hD
    have hD0 : H D = none := by rw [upd_ne nD] at hD; exact hD
    refine lc_list (K := K) (a := l0) (xs := ms.map V.int) (fun i H' => i ≤ ms.length ∧ H' = upd (upd H l0 (.lst (ms.map V.int))) D (.lst (((ms.take i).map fun n => if n < 0 then -n else n).map V.int))) ⟨Nat.zero_le _, rfl⟩ ?_ ?_ ?_
    · rintro i H' _ ⟨_, rfl⟩
      exact SqL.of (by rw [upd_ne nD.symm, upd_same])
    · rintro i x H' hx ⟨hi, rfl⟩
      rw [List.getElem?_map] at hx
      obtain ⟨n, hn, rfl⟩ := Option.map_eq_some_iff.mp hx
      have hlt : i < ms.length := (List.getElem?_eq_some_iff.mp hn).1
      refine ⟨rfl, ?_⟩
      refine yes_ ?_
      refine ⟨_, rfl, _, rfl, _, upd_same, ?_, hlt, ?_⟩
      · rw [List.length_map, List.length_map, List.length_take]
        exact Nat.lt_of_le_of_lt (Nat.min_le_right _ _) (small1000 hml)
      · rw [upd_upd]
        congr 1
        rw [List.take_add_one, hn]
        simp
    · rintro H' ⟨_, rfl⟩
      refine ⟨(by show 4 ≤ sizeLine; decide), fun p hp => ?_⟩
      have npD : D ≠ p := fun z => by rw [← z, upd_same] at hp; cases hp
      have npl : l0 ≠ p := fun z => by rw [← z, upd_ne nD.symm, upd_same] at hp; cases hp
      have hp0 : H p = none := by rw [upd_ne npD.symm, upd_ne npl.symm] at hp; exact hp
      refine k _ p D (fun b o e => ?_) hp0 hD0 ⟨0, 1234567891, 0, _, upd_same, by rw [upd_ne npD, upd_same], npD, by decide, by decide, by decide, by decide, ?_⟩
      · rw [upd_ne (ne_of_none e hp0), upd_ne (ne_of_none e hD0), upd_ne (ne_of_none e hl0)]
        exact e
      · intro n hn
        obtain ⟨z, _, rfl⟩ := List.mem_map.mp hn
        split <;> omega
theorem scK : FnScope ["_law_bag_here", "_law_many", "_law_cell", "_law_mixed", "_law_value", "_law_begin", "_law_second"] ["_law_bag_here", "_law_many"] (defScope sTake) := ⟨rfl, rfl, rfl, by decide +kernel, rfl, by decide +kernel, by decide +kernel⟩
theorem upd_id {H : Hp} {a : Addr} {o : HO} (h : H a = some o) : upd H a o = H := by
  funext b
  by_cases e : b = a
  · rw [e, upd_same, h]
  · rw [upd_ne e]
theorem px0 {j : Nat} {p : Pos} {i : Int} : PlainIx (.Constant (.int i) j p) := fun _ _ => rfl
theorem ok_take {f : Addr} {fd : FuncData} (F : Fun K "_law_take" "_law_take" sTake f fd) (zL : mg "len" = none) (zI : mg "int" = none) : FnOk P w K mg base CX0 1 f fd ["_law_bag_here", "_law_many"] spTake := by
  refine F.ok scK (fun vs H Q E h => ?_) (fun cdv A outer s H vs Q E hr h => ?_)
  · obtain ⟨p, c, n, rfl, _⟩ := h
    rfl
  · obtain ⟨p, c, n, rfl, ⟨d, m, i, ns, hp, hc, ncp, hd, hm, hm2, hi, hns⟩, hn, hn2, k⟩ := h
    have kk : ∀ (v d m i : Int), 0 ≤ v → v < n → 0 ≤ d → 0 ≤ m → m < 2147483647 → 0 ≤ i → Q (.int v) (upd H p (.lst [.int d, .int m, .int i, .ref c])) := fun v d m i h1 h2 h3 h4 h5 h6 =>
      k v _ h1 h2 ⟨d, m, i, ns, upd_same, by rw [upd_ne ncp]; exact hc, ncp, h3, h4, h5, h6, hns⟩
    obtain ⟨t2, p2, q2⟩ : ∃ t, PSs (cxOf CX0 P w K mg base ["_law_bag_here", "_law_many", "_law_cell", "_law_mixed", "_law_value", "_law_begin", "_law_second"] "_law_take" (defScope sTake) f cdv A outer s H E).nox ((defBody sTake).drop 1) t ∧
        ∀ (x2 x3 : Option V) (d m i : Int), 0 ≤ d → 0 ≤ m → m < 2147483647 → 0 ≤ i → t { nx := fun _ H' => Q .non H', rt := Q } [some (.ref p), some (.int n), x2, x3, none, none, none] (upd H p (.lst [.int d, .int m, .int i, .ref c])) := by
      refine ⟨_, pss_cons (ps_if (pt_cmpR op_gt (pe_ix ix_list (pv 0) pe_int px0) pe_int (nomark _))
          (pss_cons (ps_set (i := 4) scK.nd rfl (Or.inl rfl) (pe_op op_mod (pe_callTy call_int1 (by rfl) zI (by decide +kernel) (pa_cons (pe_ix ix_list (pv 0) pe_int px0) pa_nil)) (pv 1)))
          (pss_cons (ps_asg (pe_op op_fdiv (pe_ix ix_list (pv 0) pe_int px0) (pv 1)) (pg_sub (pv 0) pe_int set_list))
          (pss_one (ps_ret (pv 4))))) pss_nil)
        (pss_cons (ps_set (i := 5) scK.nd rfl (Or.inl rfl) (pe_op op_mod (pe_callTy call_int1 (by rfl) zI (by decide +kernel) (pa_cons (pe_op op_mul (pe_op op_add (pe_ix ix_list (pv 0) pe_int px0) pe_int) pe_int) pa_nil)) pe_int))
        (pss_cons (ps_set (i := 6) scK.nd rfl (Or.inl rfl) (pe_op op_mod (pe_callTy call_int1 (by rfl) zI (by decide +kernel) (pa_cons (pe_op op_mul (pe_op op_mod (pe_callTy call_int1 (by rfl) zI (by decide +kernel) (pa_cons (pe_op op_mul (pv 5) (pv 5)) pa_nil)) pe_int) pe_int) pa_nil)) pe_int))
        (pss_one (ps_ret (pe_op op_mod (pe_callTy call_int1 (by rfl) zI (by decide +kernel) (pa_cons (pe_op op_fdiv (pv 6) pe_int) pa_nil)) (pv 1)))))), ?_⟩
      intro x2 x3 d m i hd hm hm2 hi
      refine ⟨_, rfl, p, _, _, _, rfl, rfl, SqL.of upd_same, rfl, _, _, rfl, rfl, _, rfl, ?_⟩
      refine ite2 (fun hc1 => ?_) (fun _ => ?_)
      · have hd0 : 0 < d := of_decide_eq_true hc1
        refine ⟨_, rfl, p, _, _, _, rfl, rfl, SqL.of upd_same, rfl, .inl ⟨_, rfl, _, rfl, _, _, rfl, rfl, hn, ?_⟩⟩
        refine ⟨_, rfl, p, _, _, _, rfl, rfl, SqL.of upd_same, rfl, _, rfl, _, _, rfl, rfl, ⟨hn, hn2⟩, _, rfl, p, _, _, 0, rfl, rfl, upd_same, rfl, ?_⟩
        rw [upd_upd]
        refine ⟨_, rfl, ?_⟩
        exact kk _ (d / n) m i (Int.emod_nonneg _ (by omega)) (Int.emod_lt_of_pos _ hn) (Int.ediv_nonneg hd (by omega)) hm hm2 hi
      · refine ⟨_, rfl, p, _, _, _, rfl, rfl, SqL.of upd_same, rfl, _, _, rfl, rfl, _, _, rfl, rfl, .inl ⟨by omega, by omega⟩, .inl ⟨_, rfl, _, _, rfl, rfl, (by show (0 : Int) < 1000000007; decide), ?_⟩⟩
        have b0 : 0 ≤ (m + 1) * 39373 % 1000000007 := Int.emod_nonneg _ (by decide)
        have b1 : (m + 1) * 39373 % 1000000007 < 1000000007 := Int.emod_lt_of_pos _ (by decide)
        generalize (m + 1) * 39373 % 1000000007 = b at b0 b1 ⊢
        refine ⟨_, rfl, _, rfl, _, _, rfl, rfl, .inl ⟨by omega, by omega⟩, .inl ⟨_, rfl, _, _, rfl, rfl, (by show (0 : Int) < 998244353; decide), _, _, rfl, rfl, .inl ⟨?_, ?_⟩, .inl ⟨_, rfl, _, _, rfl, rfl, (by show (0 : Int) < 998244353; decide), ?_⟩⟩⟩
        · have := Int.emod_nonneg (b * b) (show (998244353 : Int) ≠ 0 by decide)
          omega
        · have := Int.emod_lt_of_pos (b * b) (show (0 : Int) < 998244353 by decide)
          omega
        · refine ⟨_, rfl, _, _, rfl, rfl, ⟨by decide, by decide⟩, .inl ⟨_, rfl, _, rfl, _, _, rfl, rfl, hn, ?_⟩⟩
          exact kk _ d m i (Int.emod_nonneg _ (by omega)) (Int.emod_lt_of_pos _ hn) hd hm hm2 hi
    obtain ⟨t4, p4, q4⟩ : ∃ t, PSs (cxOf CX0 P w K mg base ["_law_bag_here", "_law_many", "_law_cell", "_law_mixed", "_law_value", "_law_begin", "_law_second"] "_law_take" (defScope sTake) f cdv A outer s H E).nox ((ifBody ((defBody sTake).getD 0 (.Pass ⟨0, 0, 0, 0⟩))).drop 4) t ∧
        ∀ (D : Ends) (cell d m i : Int), 0 ≤ m → m < 2147483647 → (∀ (x3 : Option V) (m' : Int), 0 ≤ m' → m' < 2147483647 → D.nx [some (.ref p), some (.int n), some (.int cell), x3, none, none, none] (upd H p (.lst [.int d, .int m', .int i, .ref c]))) →
          t D [some (.ref p), some (.int n), some (.int cell), none, none, none, none] (upd H p (.lst [.int d, .int m, .int i, .ref c])) := by
      refine ⟨_, pss_cons (ps_set (i := 3) scK.nd rfl (Or.inl rfl) (pe_op op_add (pe_op op_add (pe_op op_mul (pe_ix ix_list (pv 0) pe_int px0) pe_int) (pe_op op_mod (pe_callTy call_int1 (by rfl) zI (by decide +kernel) (pa_cons (pv 2) pa_nil)) pe_int)) (pe_op op_mul pe_int (pe_ix ix_list (pv 0) pe_int px0))))
        (pss_one (ps_asg (pe_op op_mod (pe_callTy call_int1 (by rfl) zI (by decide +kernel) (pa_cons (pv 3) pa_nil)) pe_int) (pg_sub (pv 0) pe_int set_list))), ?_⟩
      intro D cell d m i hm hm2 kn
      refine ⟨_, rfl, p, _, _, _, rfl, rfl, SqL.of upd_same, rfl, _, _, rfl, rfl, .inl ⟨by omega, by omega⟩, _, rfl, .inl ⟨_, rfl, _, _, rfl, rfl, (by show (0 : Int) < 2147483647; decide), ?_⟩⟩
      refine ⟨_, _, rfl, rfl, _, rfl, p, _, _, _, rfl, rfl, SqL.of upd_same, rfl, _, _, rfl, rfl, .inl ⟨by decide, by decide⟩, _, _, rfl, rfl, ?_⟩
      refine ⟨_, rfl, .inl ⟨_, rfl, _, _, rfl, rfl, (by show (0 : Int) < 2147483647; decide), ?_⟩⟩
      refine ⟨_, rfl, p, _, _, 1, rfl, rfl, upd_same, rfl, ?_⟩
      rw [upd_upd]
      exact kn _ _ (Int.emod_nonneg _ (by decide)) (Int.emod_lt_of_pos _ (by decide))
    obtain ⟨t3, p3, q3⟩ : ∃ t, PSs (cxOf CX0 P w K mg base ["_law_bag_here", "_law_many", "_law_cell", "_law_mixed", "_law_value", "_law_begin", "_law_second"] "_law_take" (defScope sTake) f cdv A outer s H E).nox ((ifBody ((defBody sTake).getD 0 (.Pass ⟨0, 0, 0, 0⟩))).drop 2) t ∧
        ∀ (D : Ends) (cell d m i : Int), 0 ≤ cell → 0 ≤ d → 0 ≤ m → m < 2147483647 → 0 ≤ i → (∀ (x2 x3 : Option V) (d m' i : Int), 0 ≤ d → 0 ≤ m' → m' < 2147483647 → 0 ≤ i → D.nx [some (.ref p), some (.int n), x2, x3, none, none, none] (upd H p (.lst [.int d, .int m', .int i, .ref c]))) →
          t D [some (.ref p), some (.int n), some (.int cell), none, none, none, none] (upd H p (.lst [.int d, .int m, .int i, .ref c])) := by
      refine ⟨_, pss_cons (ps_augS (pv 0) pe_int get_list pe_int ip_add set_list)
        (pss_cons (ps_if (pt_cmpR op_ge (pv 2) (pe_op op_pow pe_int pe_int) (nomark _)) (pss_one (ps_asg (pv 2) (pg_sub (pv 0) pe_int set_list))) pss_nil) p4), ?_⟩
      intro D cell d m i hcell hd hm hm2 hi kn
      refine ⟨_, rfl, p, _, 2, _, rfl, rfl, by decide, SqL.of upd_same, rfl, _, _, rfl, rfl, p, _, _, 2, rfl, rfl, upd_same, rfl, ?_⟩
      rw [upd_upd]
      refine ⟨_, rfl, _, _, rfl, rfl, ⟨by decide, by decide, by decide⟩, _, _, rfl, rfl, _, rfl, ?_⟩
      refine ite2 (fun _ => ?_) (fun _ => ?_)
      · refine ⟨_, rfl, _, rfl, p, _, _, 0, rfl, rfl, upd_same, rfl, ?_⟩
        rw [upd_upd]
        exact q4 D cell cell m (i + 1) hm hm2 fun x3 m' h1 h2 => kn _ _ _ _ _ hcell h1 h2 (by omega)
      · exact q4 D cell d m (i + 1) hm hm2 fun x3 m' h1 h2 => kn _ _ _ _ _ hd h1 h2 (by omega)
    refine ⟨_, pss_cons (ps_if (pt_cmpR op_eq (pe_ix ix_list (pv 0) pe_int px0) pe_int (nomark _))
        (pss_cons (ps_set (i := 2) scK.nd rfl (Or.inl rfl) pe_int)
        (pss_cons (ps_if (pt_cmpR op_lt (pe_ix ix_list (pv 0) pe_int px0) (pe_callB call_len_seq (by rfl) zL PySem.boot_len (pa_cons (pe_ix ix_list (pv 0) pe_int px0) pa_nil)) (nomark _))
          (pss_one (ps_set (i := 2) scK.nd rfl (Or.inl rfl) (pe_ix ix_list (pe_ix ix_list (pv 0) pe_int px0) (pe_ix ix_list (pv 0) pe_int px0) (fun _ _ => rfl)))) pss_nil) p3)) pss_nil) p2, ?_⟩
    refine ⟨_, rfl, p, _, _, _, rfl, rfl, SqL.of hp, rfl, rfl, _, rfl, ?_⟩
    refine ite2 (fun _ => ?_) (fun _ => ?_)
    · refine ⟨_, rfl, p, _, _, _, rfl, rfl, SqL.of hp, rfl, _, rfl, p, _, _, _, rfl, rfl, SqL.of hp, rfl, c, _, rfl, .inl (SqL.of hc), _, _, rfl, rfl, _, rfl, ?_⟩
      refine ite2 (fun hlt => ?_) (fun _ => ?_)
      · have hlt' : i < ((ns.map V.int).length : Int) := of_decide_eq_true hlt
        rw [List.length_map] at hlt'
        obtain ⟨z, hz⟩ : ∃ z, ns[i.toNat]? = some z := ⟨_, List.getElem?_eq_getElem (by omega)⟩
        have hz' : atI (ns.map V.int) i = some (V.int z) := by
          have e : ((i.toNat : Nat) : Int) = i := Int.toNat_of_nonneg hi
          rw [← e]
          exact atI_nat (by rw [List.getElem?_map, hz]; rfl)
        refine ⟨_, rfl, p, _, _, _, rfl, rfl, SqL.of hp, rfl, _, rfl, p, _, _, _, rfl, rfl, SqL.of hp, rfl, c, _, _, _, rfl, rfl, SqL.of hc, hz', ?_⟩
        have hq := q3 { nx := t2 { nx := fun _ H' => Q .non H', rt := Q }, rt := Q } z d m i (hns _ (List.mem_of_getElem? hz)) hd hm hm2 hi q2
        rw [upd_id hp] at hq
        exact hq
      · have hq := q3 { nx := t2 { nx := fun _ H' => Q .non H', rt := Q }, rt := Q } 0 d m i (by decide) hd hm hm2 hi q2
        rw [upd_id hp] at hq
        exact hq
    · have hq := q2 none none d m i hd hm hm2 hi
      rw [upd_id hp] at hq
      exact hq

end
end KBag
end L2
namespace L2
namespace KG
open PySem PySem.Spec PyProof.Rows
/-! ### the table of modules is a thing that is known: so nothing new is laid in its place -/
/-- the table of modules is tracked -/
def Smo (H : Hp) : Prop := ∃ u, H sysModules = some u
theorem Smo.upd {H : Hp} {a : Addr} {u : HO} (h : Smo H) : Smo (L2.upd H a u) := by
  obtain ⟨o, e⟩ := h
  by_cases c : sysModules = a
  · exact ⟨u, by rw [c]; exact upd_same⟩
  · exact ⟨o, by rw [upd_ne c]; exact e⟩
theorem Smo.ne {H : Hp} {p : Addr} (h : Smo H) (n : H p = none) : p ≠ sysModules := by
  obtain ⟨o, e⟩ := h
  exact (ne_of_none e n).symm
/-- what stands at the start: the script, and the table of modules -/
def h0 (tr : Bool) (a : Addr) (os om : Obj) (ns : List Int) : Hp := fun b =>
  if tr = true ∧ b = a then some (.frz os (.lst (ns.map V.int))) else if b = sysModules then some (.frz om (.own 0)) else none
theorem h0_some {tr : Bool} {a : Addr} {os om : Obj} {ns : List Int} {b : Addr} {u : HO} (h : h0 tr a os om ns b = some u) :
    (tr = true ∧ b = a ∧ u = .frz os (.lst (ns.map V.int))) ∨ (b = sysModules ∧ u = .frz om (.own 0)) := by
  unfold h0 at h
  by_cases c : tr = true ∧ b = a
  · rw [if_pos c] at h
    exact .inl ⟨c.1, c.2, (Option.some.inj h).symm⟩
  · rw [if_neg c] at h
    by_cases d : b = sysModules
    · rw [if_pos d] at h
      exact .inr ⟨d, (Option.some.inj h).symm⟩
    · rw [if_neg d] at h
      cases h
theorem h0_none {tr : Bool} {a : Addr} {os om : Obj} {ns : List Int} {b : Addr} (h1 : ¬(tr = true ∧ b = a)) (h2 : b ≠ sysModules) : h0 tr a os om ns b = none := by
  unfold h0
  rw [if_neg h1, if_neg h2]
theorem h0_smo {tr : Bool} {a : Addr} {os om : Obj} {ns : List Int} : Smo (h0 tr a os om ns) := by
  unfold Smo h0
  by_cases c : tr = true ∧ sysModules = a
  · exact ⟨_, if_pos c⟩
  · exact ⟨_, by rw [if_neg c, if_pos rfl]⟩
section
variable {prg : Program} {wd : World} {K : PySem.W.Frag} {mg mb : Str → Option Value} {lev : Nat} {fa a : Addr} {fd : FuncData} {x : Str} {sp : Sp} {sh : Shared} {vs : List Value} {ns : List Int}
/-- the law's def is called behind the top -/
theorem enterG (tr : Bool) (om : Obj) (inK : K.In sh.heap) (gns : sh.heap.Ns mainGlobals mg) (bns : sh.heap.Ns builtinsNs mb) (bb : ∀ y : Str, y ≠ "__name__" → mb y = bootBuiltins y) (nl : sh.heap.NoLimit) (ng : sh.gens = #[])
    (hm : sh.heap.get? sysModules = some om) (hK1 : K.lookup sysModules = none) (hKa : tr = true → K.lookup a = none)
    (ob : sh.heap.get? a = some { cls := .type "list", data := .seq vs.toArray }) (isI : IntsAre vs ns) (many : ns.length ≤ sizeLine) (room : Room lev callerA)
    (F : ∀ base : Heap, K.In base → base.Ns mainGlobals mg → FnG prg wd K mg base lev fa fd [x] sp) (bind : ∀ (s : Shared) (u : Value), BindsTo s fd ⟨[u], []⟩ [(x, u)])
    (hsp : sp [.ref a] (h0 tr a { cls := .type "list", data := .seq vs.toArray } om ns) (fun v _ => v = .bl true) E0) :
    codeAny (model prg wd) callerA (.call (.ref fa) ⟨[.ref a], []⟩) (fun r t => r = .ok (.ret (.bool true)) ∧ OldK sh.heap t.heap ∧ t.os = sh.os ∧ AllBare t.gens) sh := by
  generalize eH : h0 tr a { cls := .type "list", data := .seq vs.toArray } om ns = H at hsp
  have held : HOk prg wd H sh.heap := by
    intro b u hb
    rw [← eH] at hb
    rcases h0_some hb with ⟨_, rfl, rfl⟩ | ⟨rfl, rfl⟩
    · exact ⟨ob, by rw [List.length_map]; exact many, vs, _, vals_ints isI, ob⟩
    · exact ⟨hm, om, hm⟩
  have low : ∀ {b : Addr} {o : Obj} {es : Array DictEntry} {ep : Nat}, b ≠ sysModules → sh.heap.get? b = some o → o.data = .dict es ep → (hidT sh.heap H).get? b = some o := by
    intro b o es ep n1 e d
    refine hidT_get e ?_
    rw [← eH]
    refine h0_none (fun c => ?_) n1
    rw [c.2, ob] at e
    rw [← Option.some.inj e] at d
    cases d
  have lowNs : ∀ {b : Addr} {m : Str → Option Value}, b ≠ sysModules → sh.heap.Ns b m → (hidT sh.heap H).Ns b m := by
    intro b m n1 z
    obtain ⟨o, es, ep, e, d, r⟩ := z
    exact ⟨o, es, ep, low n1 e d, d, r⟩
  have lowK : K.In (hidT sh.heap H) := by
    intro b o e
    refine hidT_get (inK b o e) ?_
    rw [← eH]
    refine h0_none (fun c => ?_) (fun c => ?_)
    · rw [c.2, hKa c.1] at e
      cases e
    · rw [c, hK1] at e
      cases e
  have lowL : (hidT sh.heap H).NoLimit := by
    obtain ⟨mc, z1, z2⟩ := nl
    exact ⟨mc, lowNs (by decide) z1, z2⟩
  have md : Mod K mg (hidT sh.heap H) := ⟨lowK, lowNs (by decide) gns, ⟨mb, lowNs (by decide) bns, bb⟩, lowL⟩
  have ev : Env0 prg wd K mg (hidT sh.heap H) callerA [] sh H := {
    frames := rfl, mod := md
    bs := fun b o e => of_hidT e
    bsz := by rw [hidT_size]; exact Nat.le_refl _
    funs := trivial
    frf := fun b hb => nomatch (show b ∈ ([] : List Addr) from hb)
    hok := held, bare := .of_eq ng }
  have run := (F _ lowK (lowNs (by decide) gns)).run callerA [] sh H ⟨[.ref a], []⟩ [.ref a] [.ref a] _ _ rfl room ev (bind sh (.ref a)) (.cons rfl .nil) hsp
  refine codeAny_mono run fun r t hq => ?_
  cases r with
  | error e => exact False.elim hq
  | ok fl =>
    cases fl with
    | next => exact False.elim hq
    | brk => exact False.elim hq
    | cont => exact False.elim hq
    | ret u =>
      obtain ⟨v, H2, os2, bare2, un, held2, rv, rfl⟩ := hq
      cases (show u = Value.bool true from rv)
      refine ⟨rfl, OldK.of_keep (fun b o e => ?_), os2, bare2⟩
      cases c : H b with
      | none => exact un.keep b o e c (fun z => nomatch (show b ∈ ([] : List Addr) from z)) (fun z => nomatch (show b ∈ ([] : List Addr) from z))
      | some u2 =>
        have fz : ∃ o2 u3, u2 = .frz o2 u3 := by
          have c2 := c
          rw [← eH] at c2
          rcases h0_some c2 with ⟨_, _, z⟩ | ⟨_, z⟩
          · exact ⟨_, _, z⟩
          · exact ⟨_, _, z⟩
        obtain ⟨o2, u3, rfl⟩ := fz
        have q1 : sh.heap.get? b = some o2 := (held b _ c).1
        have q2 : t.heap.get? b = some o2 := (held2 b _ (un.frzs b o2 u3 c)).1
        rw [e] at q1
        rw [q2, Option.some.inj q1]
end
/-- the goal behind the head, from a promise that leans on the guards and on the table of modules -/
theorem walkG {l : PySem.W.OpenLaw} {n lev : Nat} {q : Program} {loose : List Str} {XP : (Str → Option Value) → Heap → Prop} {YP : World → Heap → Prop} {d : DefRec} {KP : Params → PySem.W.Frag} {sp : PySem.W.Frag → Sp} {x : Str}
    (most : l.most = some n) (n2 : n ≤ sizeLine) (nod : d.params.defaults = []) (room : Room lev callerA) (himp : importsNone q = true) (hK1 : ∀ p : Params, (KP p).lookup sysModules = none)
    (hY : ∀ (w : World) (h : Heap), YP w h → (KP w.params).In h)
    (hF : ∀ (w : World) (mg : Str → Option Value) (fa : Addr) (h : Heap), (KP w.params).In h → h.Ns mainGlobals mg → mg d.name = some (.ref fa) →
      ∃ fd : FuncData, (∀ (s : Shared) (u : Value), BindsTo s fd ⟨[u], []⟩ [(x, u)]) ∧ ∀ base : Heap, (KP w.params).In base → base.Ns mainGlobals mg → FnG l.prog w (KP w.params) mg base lev fa fd [x] (sp (KP w.params)))
    (hsp : ∀ (K : PySem.W.Frag) (H : Hp) (a : Addr) (ns : List Int), ns.length ≤ n → Smo H → SqL K H a (ns.map V.int) → sp K [.ref a] H (fun v _ => v = .bl true) E0) :
    PySem.W.WalkO q loose XP YP l.row.toRowW d [] (fun f vs => PySem.call f vs) := by
  refine Att.attach_call most nod fun w s₀ sh mg mb fa o pm cd doc a vs ns G Y ho hd hcd hmg ob isI hlen ng => ?_
  have inK := hY w _ Y
  obtain ⟨fd, hb, F⟩ := hF w mg fa _ inK G.T.g hmg
  obtain ⟨mm, ⟨om, es, ep, hm, _⟩, _⟩ := (G.T.seer himp).mods
  have lenV := isI.length
  have many : ns.length ≤ sizeLine := Nat.le_trans hlen n2
  cases c : (KP w.params).lookup a with
  | none =>
    refine enterG true om inK G.T.g G.T.b G.T.builtins G.T.nolimit ng hm (hK1 _) (fun _ => c) ob isI many room F hb (hsp _ _ a ns hlen h0_smo (.inl (.inr ⟨{ cls := .type "list", data := .seq vs.toArray }, ?_⟩)))
    unfold h0
    exact if_pos ⟨rfl, rfl⟩
  | some oa =>
    have e := inK a oa c
    rw [ob] at e
    have e2 := Option.some.inj e
    subst e2
    exact enterG false om inK G.T.g G.T.b G.T.builtins G.T.nolimit ng hm (hK1 _) (fun z => nomatch z) ob isI many room F hb (hsp _ _ a ns hlen h0_smo (.inr ⟨_, vs.toArray, _, c, rfl, rfl, rfl, by rw [List.size_toArray, lenV]; exact many, by simpa using vals_ints isI⟩))
end KG
end L2
namespace L2
namespace KG
open PySem PySem.Spec PyProof.Rows
/-! ### things: data of any depth, all of them new, dicts of one text and one number among them -/
mutual
inductive Tn (H : Hp) : V → PyData → Prop
  | non : Tn H .non .none
  | bl (b : Bool) : Tn H (.bl b) (.bool b)
  | int (i : Int) : Tn H (.int i) (.int i)
  | str (x : Str) : Tn H (.str x) (.str x)
  | lst {a : Addr} {xs : List V} {ds : List PyData} : a ≠ sysModules → H a = some (.lst xs) → TnA H xs ds → Tn H (.ref a) (.list ds)
  | tup {a : Addr} {xs : List V} {ds : List PyData} : H a = some (.tup xs) → TnA H xs ds → Tn H (.ref a) (.tuple ds)
  | dct {a : Addr} {k : Str} {i : Int} : H a = some (.dK [(Sum.inr k, .int i)]) → Tn H (.ref a) (.dict [(.str k, .int i)])
inductive TnA (H : Hp) : List V → List PyData → Prop
  | nil : TnA H [] []
  | cons {v : V} {vs : List V} {d : PyData} {ds : List PyData} : Tn H v d → TnA H vs ds → TnA H (v :: vs) (d :: ds)
end
mutual
theorem Tn.keep {H H' : Hp} (s : Same H H') : ∀ (d : PyData) (v : V), Tn H v d → Tn H' v d
  | .none, _, .non => .non
  | .bool _, _, .bl b => .bl b
  | .int _, _, .int i => .int i
  | .str _, _, .str x => .str x
  | .list ds, _, .lst n h t => .lst n (s _ _ h) (TnA.keep s ds _ t)
  | .tuple ds, _, .tup h t => .tup (s _ _ h) (TnA.keep s ds _ t)
  | .dict _, _, .dct h => .dct (s _ _ h)
theorem TnA.keep {H H' : Hp} (s : Same H H') : ∀ (ds : List PyData) (vs : List V), TnA H vs ds → TnA H' vs ds
  | [], _, .nil => .nil
  | d :: ds, _, .cons a b => .cons (Tn.keep s d _ a) (TnA.keep s ds _ b)
end
theorem TnA.length {H : Hp} : ∀ {vs : List V} {ds : List PyData}, TnA H vs ds → vs.length = ds.length
  | _, _, .nil => rfl
  | _, _, .cons _ t => by
    show _ + 1 = _ + 1
    rw [TnA.length t]
theorem TnA.at {H : Hp} : ∀ {vs : List V} {ds : List PyData}, TnA H vs ds → ∀ {i : Nat} {v : V}, vs[i]? = some v → ∃ d, ds[i]? = some d ∧ Tn H v d
  | _, _, .nil, i, v, h => by
    rw [List.getElem?_nil] at h
    cases h
  | _, _, .cons a t, 0, v, h => by
    cases h
    exact ⟨_, rfl, a⟩
  | _, _, .cons a t, i + 1, v, h => TnA.at t (show _ from h)
theorem TnA.snoc {H : Hp} {v : V} {d : PyData} : ∀ {vs : List V} {ds : List PyData}, TnA H vs ds → Tn H v d → TnA H (vs ++ [v]) (ds ++ [d])
  | _, _, .nil, h => .cons h .nil
  | _, _, .cons a t, h => .cons a (TnA.snoc t h)
theorem kv_one {k : Key} {v : V} {vs : List (Key × Value)} (h : KV [(k, v)] vs) : ∃ w, vs = [(k, w)] ∧ RelV v w := by
  unfold KV at h
  cases h with
  | @cons a b _ _ hk t =>
    cases t
    obtain ⟨e1, e2⟩ := hk
    obtain ⟨b1, b2⟩ := b
    have e1' : k = b1 := e1
    subst e1'
    exact ⟨b2, rfl, e2⟩
theorem pairs_one {P : Program} {w : World} {es : List DictEntry} {k : Key} {v : Value} (h : Pairs (mixKind P w) es [(k, v)]) : ∃ en, es = [en] ∧ keyIs k en.key = true ∧ en.val = v := by
  cases h with
  | cons h1 h2 t =>
    cases t
    exact ⟨_, rfl, h1, h2⟩
section
variable {X : Cx} {pins : List (Addr × Obj)} {σ : St} {H : Hp} {s : Shared}
mutual
/-- a thing is read, no address of its lists and dicts is that of the modules' table -/
theorem Tn.reads (I : Inv X pins σ H s) : ∀ (d : PyData) (v : V) (u : Value), Tn H v d → RelV v u → ∃ as, Reads s.heap u d as ∧ sysModules ∉ as
  | .none, _, _, .non, r => by
    cases r
    exact ⟨_, Reads.none, by simp⟩
  | .bool _, _, _, .bl b, r => by
    cases r
    exact ⟨_, Reads.bool b, by simp⟩
  | .int _, _, _, .int i, r => by
    obtain ⟨t, rfl⟩ := r
    exact ⟨_, Reads.int i t, by simp⟩
  | .str _, _, _, .str x, r => by
    obtain ⟨t, rfl⟩ := r
    exact ⟨_, Reads.str x t, by simp⟩
  | .list ds, _, _, .lst (a := a) (xs := xs) n h t, r => by
    cases r
    obtain ⟨_, its, m, rv, e⟩ := (show ObjOk X.prog X.w H s.heap a (.lst xs) from I.hok a _ h)
    obtain ⟨as, q, ns⟩ := TnA.reads I ds _ its t rv
    exact ⟨_, Reads.list e rfl rfl (by simpa using q), by
      intro z
      rcases List.mem_cons.mp z with y | y
      · exact n y.symm
      · exact ns y⟩
  | .tuple ds, _, _, .tup (a := a) (xs := xs) h t, r => by
    cases r
    obtain ⟨_, its, rv, o, e, hc, m, hd⟩ := (show ObjOk X.prog X.w H s.heap a (.tup xs) from I.hok a _ h)
    obtain ⟨as, q, ns⟩ := TnA.reads I ds _ its t rv
    exact ⟨_, Reads.tuple e hc hd (by simpa using q), ns⟩
  | .dict _, _, _, .dct (a := a) (k := k) (i := i) h, r => by
    cases r
    obtain ⟨_, na, vs, kv, o, es, ep, e, ex, hd, _, pr, _⟩ := (show ObjOk X.prog X.w H s.heap a (.dK [(Sum.inr k, .int i)]) from I.hok a _ h)
    have ne : a ≠ sysModules := by
      intro z
      rw [z] at na
      exact absurd na (by decide)
    obtain ⟨w, rfl, rw⟩ := kv_one kv
    obtain ⟨tk, rfl⟩ := rw
    obtain ⟨en, he, hk, hv⟩ := pairs_one pr
    obtain ⟨tk2, hk2⟩ := Value.isStrOf_shape (x := k) (v := en.key) hk
    refine ⟨_, Reads.dict (as := []) (bs := []) e ex.1 hd ?_ ?_, ?_⟩
    · rw [he]
      show ReadsAll _ [en.key] _ _
      rw [hk2]
      exact ReadsAll.cons (as := []) (bs := []) (.str k tk2) .nil
    · rw [he]
      show ReadsAll _ [en.val] _ _
      rw [hv]
      exact ReadsAll.cons (as := []) (bs := []) (.int i tk) .nil
    · intro z
      rcases List.mem_cons.mp z with y | y
      · exact ne y.symm
      · simp at y
theorem TnA.reads (I : Inv X pins σ H s) : ∀ (ds : List PyData) (vs : List V) (us : List Value), TnA H vs ds → Vals vs us → ∃ as, ReadsAll s.heap us ds as ∧ sysModules ∉ as
  | [], _, _, .nil, r => by
    cases r
    exact ⟨_, ReadsAll.nil, by simp⟩
  | d :: ds, _, _, .cons a t, r => by
    cases r with
    | cons r1 r2 =>
      obtain ⟨as, q1, n1⟩ := Tn.reads I d _ _ a r1
      obtain ⟨bs, q2, n2⟩ := TnA.reads I ds _ _ t r2
      exact ⟨_, ReadsAll.cons q1 q2, by
        intro z
        rcases List.mem_append.mp z with y | y
        · exact n1 y
        · exact n2 y⟩
end
end
/-- the type of a thing, by its datum -/
def tyD : PyData → String
  | .none => "NoneType"
  | .bool _ => "bool"
  | .int _ => "int"
  | .str _ => "str"
  | .list _ => "list"
  | .tuple _ => "tuple"
  | .dict _ => "dict"
theorem Tn.ty {K : PySem.W.Frag} {H : Hp} {v : V} {d : PyData} (h : Tn H v d) : TyX K H v (.type (tyD d)) := by
  cases h with
  | non => exact .base .non
  | bl b => exact .base (.bl b)
  | int i => exact .base (.int i)
  | str x => exact .base (.str x)
  | lst _ e _ => exact .base (.lst e)
  | tup e _ => exact .base (.tup e)
  | dct e => exact .base (.dK e)
/-! ### repr -/
section
variable {X : Cx}
def rRepr : List V → Hp → VK → Prop := fun xs H Q => ∃ (v : V) (d : PyData), xs = [v] ∧ Tn H v d ∧ d.showable = true ∧ d.depth ≤ 30 ∧ d.shown.length ≤ sizeLine ∧ Q (.str d.shown) H
theorem call_reprT (hg : X.A.guards = some []) (hu : X.A.units + 64 < cLine) : CallR X (.builtin "repr") rRepr := by
  intro pins s σ H xs us Q I r h
  obtain ⟨v, d, rfl, t, sh, dp, sz, q⟩ := h
  obtain ⟨u, rfl, rv⟩ := vals1 r
  have two : ∀ (a : Addr), u = .ref a → wpAny (model X.prog X.w) X.A (call (.builtin "repr") [u]) (fun v s' => ∃ x H', Inv X pins σ H' s' ∧ RelV x v ∧ Q x H') X.xe s := by
    rintro a rfl
    obtain ⟨as, rd, ns⟩ := Tn.reads I d v _ t rv
    exact repr_of_reads' rd sh (fun _ => ns) hg (by omega) (fun _ _ e => e) (fun h' u tk hk => ⟨.str d.shown, H, I.kept (t' := tk) hk, ⟨u, rfl⟩, q⟩) sz
  cases t with
  | non =>
    cases (show u = Value.none from rv)
    simp only [PyData.shown] at q
    exact PySem.P.repr_of_none ⟨.str _, H, I.tok _, ⟨_, rfl⟩, q⟩
  | bl b =>
    cases (show u = Value.bool b from rv)
    refine PySem.P.repr_of_bool ⟨.str _, H, I.tok _, ⟨_, rfl⟩, ?_⟩
    cases b with
    | true => simpa only [PyData.shown] using q
    | false => simpa only [PyData.shown] using q
  | int i =>
    obtain ⟨tk, rfl⟩ := rv
    simp only [PyData.shown] at q
    exact PySem.P.repr_of_int (by simpa [PyData.showable] using sh) ⟨.str _, H, I.tok _, ⟨_, rfl⟩, q⟩
  | str x =>
    obtain ⟨tk, rfl⟩ := rv
    simp only [PyData.shown] at q sz
    exact PySem.P.repr_of_str ⟨.str _, H, I.tok _, ⟨_, rfl⟩, q⟩ sz
  | lst _ _ _ => exact two _ rv
  | tup _ _ => exact two _ rv
  | dct _ => exact two _ rv
end
end KG
end L2
namespace L2
namespace KG
open PySem PySem.Spec PyProof.Rows
/-! ### comprehensions whose turns only lay new things: what is made, by the place -/
theorem upd_fresh {H H' : Hp} {a : Addr} {u : HO} (s : Same H H') (n : H a = none) : Same H (upd H' a u) := fun b o e => by
  rw [upd_ne (ne_of_none e n)]
  exact s b o e
theorem range_filter_succ (keep : Nat → Bool) (i : Nat) : (List.range (i + 1)).filter keep = (List.range i).filter keep ++ if keep i = true then [i] else [] := by
  rw [List.range_succ, List.filter_append]
  by_cases c : keep i = true
  · rw [if_pos c, List.filter_cons_of_pos c, List.filter_nil]
  · rw [if_neg c, List.filter_cons_of_neg c, List.filter_nil]
/-- what is walked: n items, as long as nothing of H1 changes -/
structure Walks (J : It) (H1 : Hp) (n : Nat) (item : Nat → V) : Prop where
  goes : ∀ i H, i < n → Same H1 H → J.go i H
  stops : ∀ H, Same H1 H → J.stop n H
  gives : ∀ i H x H', i < n → Same H1 H → J.yld i H x H' → H' = H ∧ x = item i
theorem get_lt {xs : List V} {i : Nat} (h : i < xs.length) : xs[i]? = some (xs.getD i .non) := by
  rw [List.getD_eq_getElem?_getD, List.getElem?_eq_getElem h]
  rfl
theorem walks_list {K : PySem.W.Frag} {H1 : Hp} {a : Addr} {xs : List V} (h : SqL K H1 a xs) : Walks (Itl K a) H1 xs.length fun i => xs.getD i .non where
  goes := fun i H lt s => ⟨xs, _, s.seq h, get_lt lt⟩
  stops := fun H s => ⟨xs, s.seq h, Nat.le_refl _⟩
  gives := fun i H x H' lt s y => ⟨y.1, by
    have e := y.2 xs (s.seq h)
    rw [get_lt lt] at e
    exact (Option.some.inj e).symm⟩
theorem sqT_same {K : PySem.W.Frag} {H H' : Hp} {a : Addr} {xs : List V} (s : Same H H') (h : SqT K H a xs) : SqT K H' a xs := by
  rcases h with h | h
  · rcases h with h | ⟨o, h⟩
    · exact .inl (.inl (s _ _ h))
    · exact .inl (.inr ⟨o, s _ _ h⟩)
  · exact .inr h
theorem walks_tup {K : PySem.W.Frag} {H1 : Hp} {a : Addr} {xs : List V} (h : SqT K H1 a xs) : Walks (Itt K a) H1 xs.length fun i => xs.getD i .non where
  goes := fun i H lt s => ⟨xs, _, sqT_same s h, get_lt lt⟩
  stops := fun H s => ⟨xs, sqT_same s h, Nat.le_refl _⟩
  gives := fun i H x H' lt s y => ⟨y.1, by
    have e := y.2 xs (sqT_same s h)
    rw [get_lt lt] at e
    exact (Option.some.inj e).symm⟩
theorem walks_str {H1 : Hp} {x : Str} : Walks (Its x) H1 x.cps.size fun i => .str ⟨#[x.cps.toList.getD i 0]⟩ where
  goes := fun i H lt _ => lt
  stops := fun H _ => Nat.le_refl _
  gives := fun i H v H' lt _ y => ⟨y.1, by
    obtain ⟨c, hc, hv⟩ := y.2
    have e : x.cps.toList.getD i 0 = c := by
      rw [List.getD_eq_getElem?_getD, Array.getElem?_toList, hc]
      rfl
    rw [hv, e]⟩
theorem walks_range {H1 : Hp} {lo : Int} {n : Nat} : Walks (Itr lo n) H1 n fun i => .int (lo + i) where
  goes := fun i H lt _ => lt
  stops := fun H _ => Nat.le_refl _
  gives := fun i H v H' lt _ y => ⟨y.1, y.2⟩
/-- one of two walks -/
theorem pi_or {X : Cx} {tg it : Expr} {w1 w2 : TI} (h1 : PI X tg it w1) (h2 : PI X tg it w2) : PI X tg it fun σ H R => w1 σ H R ∨ w2 σ H R := by
  refine ⟨fun pins s σ H R I h => ?_⟩
  rcases h with h | h
  · exact h1.run pins s σ H R I h
  · exact h2.run pins s σ H R I h
theorem lc_mf {J : It} {n j : Nat} {item val : Nat → V} {keep : Nat → Bool} {tt : TT} {te : TE} {vs : List Nat} {σ : St} {H1 : Hp} {D : Addr} {Qd : Hp → Prop} (fresh : H1 D = none) (few : n < sizeLine)
    (wk : Walks J H1 n item)
    (wip : ∀ i, wipe (((wipe σ vs).set j (some (item i)))) vs = wipe σ vs)
    (test : ∀ i H (Z : Bool → Hp → Prop), i < n → Same H1 H → (∀ H4, Same H H4 → Z (keep i) H4) → tt (((wipe σ vs).set j (some (item i)))) H Z)
    (make : ∀ i H (Z : VK), i < n → keep i = true → Same H1 H → (∀ H4, Same H H4 → Z (val i) H4) → te (((wipe σ vs).set j (some (item i)))) H Z)
    (done : ∀ H, Same H1 H → H D = some (.lst (((List.range n).filter keep).map val)) → Qd H) :
    ∃ W : Nat → Nat → Hp → Prop, (∃ m, W 0 m (upd H1 D (.lst []))) ∧ ∀ i m H, W i m H →
      (J.stop i H ∧ Qd H) ∨ (J.go i H ∧ ∃ Nx : Hp → Prop, (∀ H', Nx H' → ∃ m', m' < m ∧ W (i + 1) m' H') ∧ ∀ x H', J.yld i H x H' → gName j x (wipe σ vs) H' fun σ2 H2 => wipe σ2 vs = wipe σ vs ∧ tt σ2 H2 fun b H3 =>
        if b = true then te σ2 H3 fun y H4 => ∃ acc, H4 D = some (.lst acc) ∧ acc.length < sizeLine ∧ Nx (upd H4 D (.lst (acc ++ [y]))) else Nx H3) := by
  let made : Nat → Hp → Prop := fun i H => Same H1 H ∧ H D = some (.lst (((List.range i).filter keep).map val))
  refine ⟨fun i m H => m + i = n ∧ made i H, ⟨n, by omega, upd_fresh (Same.refl H1) fresh, upd_same⟩, fun i m H h => ?_⟩
  obtain ⟨em, s, hD⟩ := h
  cases m with
  | zero =>
    have e : i = n := by omega
    subst e
    exact .inl ⟨wk.stops H s, done H s hD⟩
  | succ m =>
    have lt : i < n := by omega
    refine .inr ⟨wk.goes i H lt s, made (i + 1), fun H' z => ⟨m, Nat.lt_succ_self m, by omega, z⟩, fun x H' hy => ?_⟩
    obtain ⟨rfl, rfl⟩ := wk.gives i H x H' lt s hy
    refine ⟨wip i, test i H' _ lt s fun H4 s4 => ?_⟩
    have s14 : Same H1 H4 := s.trans s4
    have hD4 := s4 D _ hD
    by_cases c : keep i = true
    · rw [if_pos c]
      refine make i H4 _ lt c s14 fun H5 s5 => ⟨_, s5 D _ hD4, ?_, upd_fresh (s14.trans s5) fresh, ?_⟩
      · rw [List.length_map]
        have := List.length_filter_le keep (List.range i)
        rw [List.length_range] at this
        omega
      · rw [upd_same, range_filter_succ, if_pos c, List.map_append]
        rfl
    · rw [if_neg c]
      refine ⟨s14, ?_⟩
      rw [hD4, range_filter_succ, if_neg c, List.append_nil]
end KG
end L2
namespace L2
namespace K11
open PySem PySem.Spec PyProof.Rows KBag KG
abbrev sIsInt : Stmt := top 7
abbrev sIsName : Stmt := top 8
abbrev sIsOne : Stmt := top 9
abbrev sIsList : Stmt := top 13
abbrev sAreNames : Stmt := top 14
abbrev sIsAddr : Stmt := top 15
/-! ### what may be asked: a thing, or an instance that is none of them -/
/-- a class object's instance, of none of the five kinds -/
def Odd (K : PySem.W.Frag) (H : Hp) (v : V) : Prop := ∃ (a C dx : Addr) (fs : List (Str × V)), v = .ref a ∧ H a = some (.ins C dx fs) ∧ (∀ H' : Hp, H' a = some (.ins C dx fs) → TyX K H' (.ref a) (.ref C)) ∧
  ∀ n ∈ ["int", "bool", "str", "list", "tuple"], PySem.W.kitOne K (.ref C) (.type n) = some false
inductive Sees (K : PySem.W.Frag) (H : Hp) (v : V) : Option PyData → Prop
  | thing {d : PyData} : Tn H v d → Sees K H v (some d)
  | odd : Odd K H v → Sees K H v none
theorem Sees.keep {K : PySem.W.Frag} {H H' : Hp} {v : V} {d : Option PyData} (s : Same H H') (h : Sees K H v d) : Sees K H' v d := by
  cases h with
  | thing t => exact .thing (t.keep s)
  | odd o =>
    obtain ⟨a, C, dx, fs, h1, h2, h3⟩ := o
    exact .odd ⟨a, C, dx, fs, h1, s _ _ h2, h3⟩
/-- isinstance, by the datum -/
def isD (n : String) : Option PyData → Bool
  | some d => n == tyD d || (n == "int" && tyD d == "bool")
  | none => false
theorem kit_tyD : ∀ (n : String), n ∈ ["int", "bool", "str", "list", "tuple"] → ∀ t ∈ ["NoneType", "bool", "int", "str", "list", "tuple", "dict"], kitB t n = some (n == t || (n == "int" && t == "bool")) := by decide +kernel
theorem tyD_mem (d : PyData) : tyD d ∈ ["NoneType", "bool", "int", "str", "list", "tuple", "dict"] := by
  cases d <;> simp [tyD]
theorem Sees.kit {K : PySem.W.Frag} {H : Hp} {v : V} {d : Option PyData} (h : Sees K H v d) : ∃ t, TyX K H v t ∧ ∀ n ∈ ["int", "bool", "str", "list", "tuple"], PySem.W.kitOne K t (.type n) = some (isD n d) := by
  cases h with
  | thing t =>
    rename_i d
    exact ⟨_, t.ty, fun n hn => kit_ty (kit_tyD n hn _ (tyD_mem d))⟩
  | odd o =>
    obtain ⟨a, C, dx, fs, rfl, h2, h3, h4⟩ := o
    exact ⟨_, h3 H h2, fun n hn => h4 n hn⟩
/-! ### the words of a value -/
def dInt : Option PyData → Bool
  | some (.int _) => true
  | _ => false
/-- one to eight letters -/
def wrd (x : Str) : Bool := decide (1 ≤ x.length) && decide (x.length ≤ 8) && x.cps.toList.all fun c => decide (97 ≤ c ∧ c ≤ 122)
def dName : Option PyData → Bool
  | some (.str x) => wrd x
  | _ => false
def dOne (ws : List Str) : Option PyData → Bool
  | some (.str x) => ws.any fun w => w == x
  | _ => false
def dList : Option PyData → Bool
  | some (.list _) => true
  | some (.tuple _) => true
  | _ => false
def dNames (most : Int) : Option PyData → Bool
  | some (.list ds) => decide ((ds.length : Int) ≤ most) && ds.all fun d => dName (some d)
  | some (.tuple ds) => decide ((ds.length : Int) ≤ most) && ds.all fun d => dName (some d)
  | _ => false
def dNat : Option PyData → Bool
  | some (.int i) => decide (0 ≤ i)
  | _ => false
def dAddr : Option PyData → Bool
  | some (.tuple ds) => decide (ds.length % 2 = 1) && ds.all fun d => dNat (some d)
  | _ => false
mutual
/-- texts are short, lists no longer than they are drawn -/
def small : PyData → Bool
  | .str x => decide (x.length ≤ 100)
  | .list ds => decide (ds.length ≤ 10000) && smalls ds
  | .tuple ds => decide (ds.length ≤ 10000) && smalls ds
  | _ => true
def smalls : List PyData → Bool
  | [] => true
  | d :: ds => small d && smalls ds
end
theorem smalls_at : ∀ {ds : List PyData} {i : Nat} {d : PyData}, smalls ds = true → ds[i]? = some d → small d = true
  | [], i, d, _, h => by
    rw [List.getElem?_nil] at h
    cases h
  | e :: ds, 0, d, s, h => by
    cases h
    have s' : (small e && smalls ds) = true := s
    rw [Bool.and_eq_true] at s'
    exact s'.1
  | e :: ds, i + 1, d, s, h => by
    have s' : (small e && smalls ds) = true := s
    rw [Bool.and_eq_true] at s'
    exact smalls_at s'.2 (show _ from h)
def smallO : Option PyData → Bool
  | some d => small d
  | none => true
section
variable {Pg : Program} {w : World} {K : PySem.W.Frag} {mg : Str → Option Value} {base : Heap}
/-- asks a value, tells a bool; new things may be laid -/
def spAsk (K : PySem.W.Frag) (f : Option PyData → Bool) : Sp := fun vs H Q _ => ∃ (v : V) (d : Option PyData), vs = [v] ∧ Sees K H v d ∧ smallO d = true ∧ ∀ H', Same H H' → Q (.bl (f d)) H'
theorem Same.updNew {H H' : Hp} {a : Addr} {u : HO} (s : Same H H') (n : H a = none) : Same H (upd H' a u) := fun b o e => by
  rw [upd_ne (ne_of_none e n)]
  exact s b o e
theorem scI : FnScope ["thing"] ["thing"] (defScope sIsInt) := ⟨rfl, rfl, rfl, by decide +kernel, rfl, by decide +kernel, by decide +kernel⟩
theorem ok_isInt {f : Addr} {fd : FuncData} (F : Fun K "is_integer" "is_integer" sIsInt f fd) (zIs : mg "isinstance" = none) (zInt : mg "int" = none) (zBool : mg "bool" = none) : FnOk Pg w K mg base CX0 1 f fd ["thing"] (spAsk K dInt) := by
  refine F.ok scI (fun vs H Q E h => ?_) (fun cdv A outer s H vs Q E hr h => ?_)
  · obtain ⟨v, d, rfl, _⟩ := h
    rfl
  · obtain ⟨v, d, rfl, hs, _, k⟩ := h
    obtain ⟨t, ty, kt⟩ := hs.kit
    refine ⟨_, pss_one (ps_ret (pe_and (pe_callB call_isi (by rfl) zIs (by decide +kernel) (pa_cons (pv 0) (pa_cons (pe_bltn (v := .ty "int") (by rfl) zInt (by decide +kernel) rfl) pa_nil)))
      (pe_one (pe_not (pe_callB call_isi (by rfl) zIs (by decide +kernel) (pa_cons (pv 0) (pa_cons (pe_bltn (v := .ty "bool") (by rfl) zBool (by decide +kernel) rfl) pa_nil))))))), ?_⟩
    refine ⟨_, rfl, v, .ty "int", t, .type "int", isD "int" d, rfl, .ty _, ty, kt _ (by decide), isD "int" d, rfl, ?_⟩
    by_cases c : isD "int" d = true
    · rw [if_pos c]
      refine ⟨_, rfl, v, .ty "bool", t, .type "bool", isD "bool" d, rfl, .ty _, ty, kt _ (by decide), isD "bool" d, rfl, ?_⟩
      have e : (!isD "bool" d) = dInt d := by
        cases d with
        | none => simp [isD] at c
        | some d => cases d <;> simp_all [isD, dInt, tyD]
      rw [e]
      exact k H (Same.refl H)
    · rw [if_neg c]
      have e : false = dInt d := by
        cases d with
        | none => rfl
        | some d => cases d <;> simp_all [isD, dInt, tyD]
      rw [e]
      exact k H (Same.refl H)
end
section
variable {Pg : Program} {w : World} {K : PySem.W.Frag} {mg : Str → Option Value} {base : Heap}
theorem scLi : FnScope ["thing"] ["thing"] (defScope sIsList) := ⟨rfl, rfl, rfl, by decide +kernel, rfl, by decide +kernel, by decide +kernel⟩
theorem ok_isList {f : Addr} {fd : FuncData} (F : Fun K "is_list" "is_list" sIsList f fd) (zIs : mg "isinstance" = none) (zL : mg "list" = none) (zT : mg "tuple" = none) : FnOk Pg w K mg base CX0 1 f fd ["thing"] (spAsk K dList) := by
  refine F.ok scLi (fun vs H Q E h => ?_) (fun cdv A outer s H vs Q E hr h => ?_)
  · obtain ⟨v, d, rfl, _⟩ := h
    rfl
  · obtain ⟨v, d, rfl, hs, _, k⟩ := h
    refine ⟨_, pss_one (ps_ret (pe_callB call_isiT (by rfl) zIs (by decide +kernel) (pa_cons (pv 0) (pa_cons (pe_tup (pa_cons (pe_bltn (v := .ty "list") (by rfl) zL (by decide +kernel) rfl) (pa_cons (pe_bltn (v := .ty "tuple") (by rfl) zT (by decide +kernel) rfl) pa_nil))) pa_nil)))), ?_⟩
    refine ⟨_, rfl, (by show 2 ≤ sizeLine; decide), fun tp hp => ?_⟩
    have s1 : Same H (upd H tp (.tup [.ty "list", .ty "tuple"])) := upd_fresh (Same.refl H) hp
    obtain ⟨t, ty, kt⟩ := (hs.keep s1).kit
    refine ⟨v, tp, [.ty "list", .ty "tuple"], t, [.type "list", .type "tuple"], dList d, rfl, upd_same, .cons (.ty _) (.cons (.ty _) .nil), ty, ?_, k _ s1⟩
    refine kitAny_cons (kt _ (by decide)) (fun e1 => kitAny_cons (b := isD "tuple" d) (kt _ (by decide)) (fun e2 => ?_) (fun e2 => ?_)) (fun e1 => ?_)
    · have e : dList d = false := by
        cases d with
        | none => rfl
        | some d => cases d <;> simp_all [isD, dList, tyD]
      rw [e]
      exact kitAny_nil
    · cases d with
      | none => simp [isD] at e2
      | some d => cases d <;> simp_all [isD, dList, tyD]
    · cases d with
      | none => simp [isD] at e1
      | some d => cases d <;> simp_all [isD, dList, tyD]
theorem scO : FnScope ["thing", "words"] ["thing", "words"] (defScope sIsOne) := ⟨rfl, rfl, rfl, by decide +kernel, rfl, by decide +kernel, by decide +kernel⟩
/-- thing in words, words some texts -/
def spOne (K : PySem.W.Frag) : Sp := fun vs H Q _ => ∃ (v : V) (d : Option PyData) (p : Addr) (ws : List Str), vs = [v, .ref p] ∧ Sees K H v d ∧ smallO d = true ∧ SqT K H p (ws.map V.str) ∧ ∀ H', Same H H' → Q (.bl (dOne ws d)) H'
theorem all_flat (ws : List Str) : (ws.map V.str).all flatV = true := by
  rw [List.all_map]
  exact List.all_eq_true.mpr fun _ _ => rfl
theorem in_strs (x : Str) (ws : List Str) : inV (.str x) (ws.map V.str) = ws.any fun w => w == x := by
  unfold inV
  rw [List.any_map]
  rfl
theorem ok_isOne {f : Addr} {fd : FuncData} (F : Fun K "is_one_of" "is_one_of" sIsOne f fd) (zIs : mg "isinstance" = none) (zS : mg "str" = none) : FnOk Pg w K mg base CX0 1 f fd ["thing", "words"] (spOne K) := by
  refine F.ok scO (fun vs H Q E h => ?_) (fun cdv A outer s H vs Q E hr h => ?_)
  · obtain ⟨v, d, p, ws, rfl, _⟩ := h
    rfl
  · obtain ⟨v, d, p, ws, rfl, hs, _, hp, k⟩ := h
    obtain ⟨t, ty, kt⟩ := hs.kit
    refine ⟨_, pss_one (ps_ret (pe_and (pe_callB call_isi (by rfl) zIs (by decide +kernel) (pa_cons (pv 0) (pa_cons (pe_bltn (v := .ty "str") (by rfl) zS (by decide +kernel) rfl) pa_nil)))
      (pe_one (pe_cmpR op_in_seq (pv 0) (pv 1) (by with_unfolding_all rfl))))), ?_⟩
    refine ⟨_, rfl, v, .ty "str", t, .type "str", isD "str" d, rfl, .ty _, ty, kt _ (by decide), isD "str" d, rfl, ?_⟩
    by_cases c : isD "str" d = true
    · rw [if_pos c]
      cases hs with
      | odd o => simp [isD] at c
      | thing tn =>
        cases tn with
        | str x =>
          refine ⟨_, rfl, _, rfl, p, ws.map V.str, rfl, .inr hp, rfl, all_flat ws, ?_⟩
          rw [if_neg (by decide), in_strs]
          exact k H (Same.refl H)
        | non => simp [isD, tyD] at c
        | bl b => simp [isD, tyD] at c
        | int i => simp [isD, tyD] at c
        | lst _ _ _ => simp [isD, tyD] at c
        | tup _ _ => simp [isD, tyD] at c
        | dct _ => simp [isD, tyD] at c
    · rw [if_neg c]
      have e : dOne ws d = false := by
        cases d with
        | none => rfl
        | some d => cases d <;> simp_all [isD, dOne, tyD]
      have k' := k H (Same.refl H)
      rw [e] at k'
      exact k'
abbrev s_isUse : Stmt := top 10
theorem sc_isUse : FnScope ["thing"] ["thing"] (defScope s_isUse) := ⟨rfl, rfl, rfl, by decide +kernel, rfl, by decide +kernel, by decide +kernel⟩
theorem ok_isUse {f fO pw : Addr} {fd fdO : FuncData} {ws : List Str} (F : Fun K "is_use" "is_use" s_isUse f fd) (gC : mg "USES" = some (.ref pw)) (hw : ∀ H : Hp, SqT K H pw (ws.map V.str))
    (FO : FnOk Pg w K mg base CX0 1 fO fdO ["thing", "words"] (spOne K)) (gO : mg "is_one_of" = some (.ref fO)) (kO : PySem.W.keepIn K (.ref fO) = true) (bO : Binds K fdO ["thing", "words"] []) :
    FnOk Pg w K mg base CX0 2 f fd ["thing"] (spAsk K (dOne ws)) := by
  refine F.ok sc_isUse (fun vs H Q E h => ?_) (fun cdv A outer s H vs Q E hr h => ?_)
  · obtain ⟨v, d, rfl, _⟩ := h
    rfl
  · obtain ⟨v, d, rfl, hs, sm, k⟩ := h
    refine ⟨_, pss_one (ps_ret (pe_call FO hr (by rfl) gO kO bO .nil pass0 (pa_cons (pv 0) (pa_cons (pe_glob (v := .ref pw) (by rfl) gC rfl) pa_nil)))), ?_⟩
    exact ⟨_, rfl, v, d, pw, ws, rfl, hs, sm, hw H, fun H' s' => k H' s'⟩
abbrev s_isWay : Stmt := top 11
theorem sc_isWay : FnScope ["thing"] ["thing"] (defScope s_isWay) := ⟨rfl, rfl, rfl, by decide +kernel, rfl, by decide +kernel, by decide +kernel⟩
theorem ok_isWay {f fO pw : Addr} {fd fdO : FuncData} {ws : List Str} (F : Fun K "is_way" "is_way" s_isWay f fd) (gC : mg "WAYS" = some (.ref pw)) (hw : ∀ H : Hp, SqT K H pw (ws.map V.str))
    (FO : FnOk Pg w K mg base CX0 1 fO fdO ["thing", "words"] (spOne K)) (gO : mg "is_one_of" = some (.ref fO)) (kO : PySem.W.keepIn K (.ref fO) = true) (bO : Binds K fdO ["thing", "words"] []) :
    FnOk Pg w K mg base CX0 2 f fd ["thing"] (spAsk K (dOne ws)) := by
  refine F.ok sc_isWay (fun vs H Q E h => ?_) (fun cdv A outer s H vs Q E hr h => ?_)
  · obtain ⟨v, d, rfl, _⟩ := h
    rfl
  · obtain ⟨v, d, rfl, hs, sm, k⟩ := h
    refine ⟨_, pss_one (ps_ret (pe_call FO hr (by rfl) gO kO bO .nil pass0 (pa_cons (pv 0) (pa_cons (pe_glob (v := .ref pw) (by rfl) gC rfl) pa_nil)))), ?_⟩
    exact ⟨_, rfl, v, d, pw, ws, rfl, hs, sm, hw H, fun H' s' => k H' s'⟩
abbrev s_isHand : Stmt := top 12
theorem sc_isHand : FnScope ["thing"] ["thing"] (defScope s_isHand) := ⟨rfl, rfl, rfl, by decide +kernel, rfl, by decide +kernel, by decide +kernel⟩
theorem ok_isHand {f fO pw : Addr} {fd fdO : FuncData} {ws : List Str} (F : Fun K "is_handing" "is_handing" s_isHand f fd) (gC : mg "HANDINGS" = some (.ref pw)) (hw : ∀ H : Hp, SqT K H pw (ws.map V.str))
    (FO : FnOk Pg w K mg base CX0 1 fO fdO ["thing", "words"] (spOne K)) (gO : mg "is_one_of" = some (.ref fO)) (kO : PySem.W.keepIn K (.ref fO) = true) (bO : Binds K fdO ["thing", "words"] []) :
    FnOk Pg w K mg base CX0 2 f fd ["thing"] (spAsk K (dOne ws)) := by
  refine F.ok sc_isHand (fun vs H Q E h => ?_) (fun cdv A outer s H vs Q E hr h => ?_)
  · obtain ⟨v, d, rfl, _⟩ := h
    rfl
  · obtain ⟨v, d, rfl, hs, sm, k⟩ := h
    refine ⟨_, pss_one (ps_ret (pe_call FO hr (by rfl) gO kO bO .nil pass0 (pa_cons (pv 0) (pa_cons (pe_glob (v := .ref pw) (by rfl) gC rfl) pa_nil)))), ?_⟩
    exact ⟨_, rfl, v, d, pw, ws, rfl, hs, sm, hw H, fun H' s' => k H' s'⟩
end
section
variable {Pg : Program} {w : World} {K : PySem.W.Frag} {mg : Str → Option Value} {base : Heap}
theorem scN : FnScope ["thing", "letter"] ["thing"] (defScope sIsName) := ⟨rfl, rfl, rfl, by decide +kernel, rfl, by decide +kernel, by decide +kernel⟩
def letters : Str := "abcdefghijklmnopqrstuvwxyz"
theorem letters_mem (c : Nat) : decide (c ∈ letters.cps.toList) = decide (97 ≤ c ∧ c ≤ 122) := by
  by_cases h : c ≤ 122
  · have all : ∀ c, c < 123 → decide (c ∈ letters.cps.toList) = decide (97 ≤ c ∧ c ≤ 122) := by decide +kernel
    exact all c (by omega)
  · have big : ∀ x ∈ letters.cps.toList, x ≤ 122 := by decide +kernel
    rw [decide_eq_false (fun z => h (big c z)), decide_eq_false (fun z => h z.2)]
theorem lt_line {n : Nat} (h : n ≤ 10000) : n < sizeLine := Nat.lt_of_le_of_lt h (by decide)
theorem range_all {n : Nat} {f : Nat → Bool} : ((List.range n).map f).all id = (List.range n).all f := by
  rw [List.all_map]
  rfl
theorem all_getD {α : Type} (d : α) (p : α → Bool) : ∀ l : List α, ((List.range l.length).all fun i => p (l.getD i d)) = l.all p
  | [] => rfl
  | x :: l => by
    rw [List.length_cons, List.range_succ_eq_map, List.all_cons, List.all_map, List.all_cons, ← all_getD d p l]
    rfl
theorem filter_true {n : Nat} : (List.range n).filter (fun _ => true) = List.range n := List.filter_eq_self.mpr fun _ _ => rfl
theorem bools_list {H : Hp} {D : Addr} {n : Nat} {f : Nat → Bool} (h : H D = some (.lst (((List.range n).filter fun _ => true).map fun i => V.bl (f i)))) : SqL K H D (((List.range n).map f).map V.bl) := by
  rw [filter_true] at h
  refine SqL.of ?_
  rw [h, List.map_map]
  rfl
theorem not_of_str {d : PyData} (c : isD "str" (some d) = true) : ∃ x, d = .str x := by
  cases d <;> simp_all [isD, tyD]
theorem ok_isName {f : Addr} {fd : FuncData} (F : Fun K "is_name" "is_name" sIsName f fd) (zIs : mg "isinstance" = none) (zS : mg "str" = none) (zLen : mg "len" = none) (zAll : mg "all" = none) (gL : ∃ t, mg "LETTERS" = some (.str letters t)) (gN : ∃ t, mg "LONGEST" = some (.int 8 t)) :
    FnOk Pg w K mg base CX0 1 f fd ["thing"] (spAsk K dName) := by
  obtain ⟨tl, gL⟩ := gL
  obtain ⟨tn, gN⟩ := gN
  refine F.ok scN (fun vs H Q E h => ?_) (fun cdv A outer s H vs Q E hr h => ?_)
  · obtain ⟨v, d, rfl, _⟩ := h
    rfl
  · obtain ⟨v, d, rfl, hs, sm, k⟩ := h
    obtain ⟨t, ty, kt⟩ := hs.kit
    refine ⟨_, pss_cons (ps_if (PW.pt (pw_or (pt_not (pt_val (pe_callB call_isi (by rfl) zIs (by decide +kernel) (pa_cons (pv 0) (pa_cons (pe_bltn (v := .ty "str") (by rfl) zS (by decide +kernel) rfl) pa_nil)))))
        (pw_or1 (pt_not (pt_chain op_le op_le pe_int (pe_callB call_len_str (by rfl) zLen PySem.boot_len (pa_cons (pv 0) pa_nil)) (pe_glob (v := .int 8) (by rfl) gN ⟨_, rfl⟩))))))
        (pss_one (ps_ret pe_bl)) pss_nil)
      (pss_one (ps_ret (pe_callB (cr_all rfl) (by rfl) zAll (by decide +kernel) (pa_cons (pe_lc (own := [("letter", 1)]) (g := gName 1) (tt := tYes) (by rfl) scN.nd (pi_str (pv 0)) (blkOk_by (own := [("letter", 1)]) (N := ["thing", "letter"]) (sc := defScope sIsName) (by decide +kernel)) (fun _ _ _ _ _ => pg_name (i := 1) scN.nd rfl (Or.inl rfl)) (fun _ _ _ _ _ => pts_nil)
        (fun _ _ _ _ _ => pe_cmpR op_in_sign (pv 1) (pe_glob (v := .str letters) (by rfl) gL ⟨_, rfl⟩) (by with_unfolding_all rfl))) pa_nil)))), ?_⟩
    refine ⟨_, rfl, v, .ty "str", t, .type "str", isD "str" d, rfl, .ty _, ty, kt _ (by decide), isD "str" d, rfl, ?_⟩
    by_cases c : isD "str" d = true
    · cases d with
      | none => simp [isD] at c
      | some d =>
        obtain ⟨x, rfl⟩ := not_of_str c
        cases hs with
        | thing tn =>
        cases tn
        have sl : x.length ≤ 100 := by simpa [smallO, small] using sm
        rw [c]
        refine ite2 (fun z => by cases z) (fun _ => ?_)
        refine ⟨_, rfl, x, rfl, Nat.le_trans sl (by decide), _, _, rfl, rfl, _, rfl, ?_⟩
        have bad : ¬(1 ≤ x.length ∧ x.length ≤ 8) → Q (.bl false) H := fun z => by
          have e : dName (some (.str x)) = false := by
            show (decide (1 ≤ x.length) && decide (x.length ≤ 8) && _) = false
            by_cases z1 : 1 ≤ x.length
            · rw [decide_eq_false (fun z2 : x.length ≤ 8 => z ⟨z1, z2⟩), Bool.and_false, Bool.false_and]
            · rw [decide_eq_false z1, Bool.false_and, Bool.false_and]
          have k' := k H (Same.refl H)
          rw [e] at k'
          exact k'
        refine ite2 (fun z1 => ?_) (fun z1 => ?_)
        · have l1 : (1 : Int) ≤ x.length := of_decide_eq_true z1
          refine ⟨_, _, rfl, rfl, _, rfl, ?_⟩
          refine ite2 (fun z2 => ?_) (fun z2 => ?_)
          · exact bad (fun z => by
              have : decide ((x.length : Int) ≤ 8) = true := decide_eq_true (by omega)
              rw [this] at z2
              cases z2)
          · have l2 : (x.length : Int) ≤ 8 := by
              by_cases z : (x.length : Int) ≤ 8
              · exact z
              · rw [decide_eq_false z] at z2
                exact absurd rfl z2
            refine ⟨_, rfl, x, rfl, fun D hD => lc_mf (keep := fun _ => true) (val := fun i => .bl (decide (97 ≤ x.cps.toList.getD i 0 ∧ x.cps.toList.getD i 0 ≤ 122))) hD (lt_line (Nat.le_trans sl (by decide))) walks_str (fun i => rfl) (fun i H4 Z _ _ h => h H4 (Same.refl H4)) (fun i H4 Z hi _ s4 h => ?_) (fun H4 s4 hD4 => ?_)⟩
            · refine ⟨_, rfl, _, _, rfl, rfl, ?_⟩
              rw [letters_mem]
              exact h H4 (Same.refl H4)
            · refine ⟨D, _, rfl, bools_list hD4, ?_⟩
              have e : ((List.range x.cps.size).map fun i => decide (97 ≤ x.cps.toList.getD i 0 ∧ x.cps.toList.getD i 0 ≤ 122)).all id = dName (some (.str x)) := by
                rw [range_all]
                have y := all_getD 0 (fun c => decide (97 ≤ c ∧ c ≤ 122)) x.cps.toList
                rw [Array.length_toList] at y
                rw [y]
                have a1 : decide (1 ≤ x.length) = true := decide_eq_true (by omega)
                have a2 : decide (x.length ≤ 8) = true := decide_eq_true (by omega)
                show _ = (decide (1 ≤ x.length) && decide (x.length ≤ 8) && _)
                rw [a1, a2, Bool.true_and, Bool.true_and]
              have k' := k H4 s4
              rw [← e] at k'
              exact k'
        · have l1 : ¬(1 : Int) ≤ x.length := fun z => z1 (decide_eq_true z)
          refine ⟨_, rfl, ?_⟩
          exact bad (fun z => l1 (by omega))
    · have e : dName d = false := by
        cases d with
        | none => rfl
        | some d => cases d <;> simp_all [isD, dName, tyD]
      have k' := k H (Same.refl H)
      rw [e] at k'
      rw [eq_false_of_ne_true c]
      refine ite2 (fun _ => ?_) (fun z => absurd rfl z)
      exact ite2 (fun _ => k') (fun z => absurd rfl z)
end
section
variable {Pg : Program} {w : World} {K : PySem.W.Frag} {mg : Str → Option Value} {base : Heap}
theorem scNs : FnScope ["thing", "most", "name"] ["thing", "most"] (defScope sAreNames) := ⟨rfl, rfl, rfl, by decide +kernel, rfl, by decide +kernel, by decide +kernel⟩
/-- a list of names, so many at most -/
def spNames (K : PySem.W.Frag) : Sp := fun vs H Q _ => ∃ (v : V) (d : Option PyData) (most : Int), vs = [v, .int most] ∧ Sees K H v d ∧ smallO d = true ∧ ∀ H', Same H H' → Q (.bl (dNames most d)) H'
theorem tna_at {H : Hp} {xs : List V} {ds : List PyData} (t : TnA H xs ds) {i : Nat} (lt : i < ds.length) : ∃ d, ds[i]? = some d ∧ ds.getD i .none = d ∧ Tn H (xs.getD i .non) d := by
  have lx : i < xs.length := by rw [t.length]; exact lt
  obtain ⟨d, hd, hv⟩ := t.at (get_lt lx)
  refine ⟨d, hd, ?_, hv⟩
  rw [List.getD_eq_getElem?_getD, hd]
  rfl
theorem ok_areNames {f fL fN : Addr} {fd fdL fdN : FuncData} (F : Fun K "are_names" "are_names" sAreNames f fd) (zLen : mg "len" = none) (zAll : mg "all" = none)
    (FL : FnOk Pg w K mg base CX0 1 fL fdL ["thing"] (spAsk K dList)) (gL : mg "is_list" = some (.ref fL)) (kL : PySem.W.keepIn K (.ref fL) = true) (bL : Binds K fdL ["thing"] [])
    (FN : FnOk Pg w K mg base CX0 1 fN fdN ["thing"] (spAsk K dName)) (gN : mg "is_name" = some (.ref fN)) (kN : PySem.W.keepIn K (.ref fN) = true) (bN : Binds K fdN ["thing"] []) :
    FnOk Pg w K mg base CX0 2 f fd ["thing", "most"] (spNames K) := by
  refine F.ok scNs (fun vs H Q E h => ?_) (fun cdv A outer s H vs Q E hr h => ?_)
  · obtain ⟨v, d, m, rfl, _⟩ := h
    rfl
  · obtain ⟨v, d, most, rfl, hs, sm, k⟩ := h
    refine ⟨_, pss_one (ps_ret (pe_and (pe_call FL hr (by rfl) gL kL bL .nil pass0 (pa_cons (pv 0) pa_nil))
      (pe_and (pe_cmpR op_le (pe_callB call_len_seq (by rfl) zLen PySem.boot_len (pa_cons (pv 0) pa_nil)) (pv 1) (nomark _))
      (pe_one (pe_callB (cr_all rfl) (by rfl) zAll (by decide +kernel) (pa_cons (pe_lc (own := [("name", 2)]) (g := gName 2) (tt := tYes) (by rfl) scNs.nd (pi_or (pi_list (pv 0)) (pi_tup (pv 0))) (blkOk_by (own := [("name", 2)]) (N := ["thing", "most", "name"]) (sc := defScope sAreNames) (by decide +kernel)) (fun _ _ _ _ _ => pg_name (i := 2) scNs.nd rfl (Or.inl rfl)) (fun _ _ _ _ _ => pts_nil)
        (fun _ _ _ _ _ => pe_call FN hr (by rfl) gN kN bN .nil pass0 (pa_cons (pv 2) pa_nil))) pa_nil)))))), ?_⟩
    refine ⟨_, rfl, v, d, rfl, hs, sm, fun H1 s1 => ⟨_, rfl, ?_⟩⟩
    have hs1 := hs.keep s1
    have step : ∀ (xs : List V) (ds : List PyData), TnA H1 xs ds → smalls ds = true → ∀ i H4 (Z : VK), i < xs.length → Same H1 H4 → (∀ H5, Same H4 H5 → Z (.bl (dName (some (ds.getD i .none)))) H5) → spAsk K dName [xs.getD i .non] H4 Z E0 := by
      intro xs ds tn ss i H4 Z lt s4 z
      obtain ⟨e, he, hg, ht⟩ := tna_at tn (i := i) (by rw [← tn.length]; exact lt)
      refine ⟨_, some e, rfl, .thing (ht.keep s4), smalls_at ss he, ?_⟩
      rw [← hg]
      exact z
    have fin : ∀ (xs : List V) (ds : List PyData), TnA H1 xs ds → (∀ b, b = (decide ((ds.length : Int) ≤ most) && ds.all fun d => dName (some d)) → dNames most d = b) → decide ((xs.length : Int) ≤ most) = true → ((List.range xs.length).map fun i => dName (some (ds.getD i .none))).all id = dNames most d := by
      intro xs ds tn eb lm
      rw [eb _ rfl, ← tn.length, lm, Bool.true_and, range_all]
      have y := all_getD PyData.none (fun d => dName (some d)) ds
      rw [← tn.length] at y
      exact y
    cases hs1 with
    | odd o => exact k H1 s1
    | thing tn =>
      cases tn with
      | non => exact k H1 s1
      | bl b => exact k H1 s1
      | int i => exact k H1 s1
      | str x => exact k H1 s1
      | dct e => exact k H1 s1
      | @lst a xs ds na e tn =>
        have sm2 : (decide (ds.length ≤ 10000) && smalls ds) = true := sm
        rw [Bool.and_eq_true] at sm2
        refine ⟨_, rfl, a, xs, rfl, .inl (SqL.of e), _, rfl, _, _, rfl, rfl, _, rfl, ?_⟩
        refine ite2 (fun lm => ?_) (fun lm => ?_)
        · refine .inl ⟨_, rfl, a, rfl, ⟨xs, SqL.of e⟩, fun D hD => lc_mf (keep := fun _ => true) (val := fun i => .bl (dName (some (ds.getD i .none)))) hD (lt_line (by rw [tn.length]; exact of_decide_eq_true sm2.1)) (walks_list (SqL.of e)) (fun i => rfl) (fun i H4 Z _ _ h => h H4 (Same.refl H4)) (fun i H4 Z hi _ s4 h => ⟨_, rfl, step xs ds tn sm2.2 i H4 Z hi s4 h⟩) (fun H4 s4 hD4 => ?_)⟩
          refine ⟨D, _, rfl, bools_list hD4, ?_⟩
          have k' := k H4 (s1.trans s4)
          rw [← fin xs ds tn (fun b hb => by rw [hb]; rfl) lm] at k'
          exact k'
        · have k' := k H1 s1
          have e0 : dNames most (some (.list ds)) = false := by
            show (decide ((ds.length : Int) ≤ most) && _) = false
            rw [← tn.length, Bool.eq_false_iff.mpr lm, Bool.false_and]
          rw [e0] at k'
          exact k'
      | @tup a xs ds e tn =>
        have sm2 : (decide (ds.length ≤ 10000) && smalls ds) = true := sm
        rw [Bool.and_eq_true] at sm2
        refine ⟨_, rfl, a, xs, rfl, .inr (SqT.of e), _, rfl, _, _, rfl, rfl, _, rfl, ?_⟩
        refine ite2 (fun lm => ?_) (fun lm => ?_)
        · refine .inr ⟨_, rfl, a, rfl, ⟨xs, SqT.of e⟩, fun D hD => lc_mf (keep := fun _ => true) (val := fun i => .bl (dName (some (ds.getD i .none)))) hD (lt_line (by rw [tn.length]; exact of_decide_eq_true sm2.1)) (walks_tup (SqT.of e)) (fun i => rfl) (fun i H4 Z _ _ h => h H4 (Same.refl H4)) (fun i H4 Z hi _ s4 h => ⟨_, rfl, step xs ds tn sm2.2 i H4 Z hi s4 h⟩) (fun H4 s4 hD4 => ?_)⟩
          refine ⟨D, _, rfl, bools_list hD4, ?_⟩
          have k' := k H4 (s1.trans s4)
          rw [← fin xs ds tn (fun b hb => by rw [hb]; rfl) lm] at k'
          exact k'
        · have k' := k H1 s1
          have e0 : dNames most (some (.tuple ds)) = false := by
            show (decide ((ds.length : Int) ≤ most) && _) = false
            rw [← tn.length, Bool.eq_false_iff.mpr lm, Bool.false_and]
          rw [e0] at k'
          exact k'
end
section
variable {Pg : Program} {w : World} {K : PySem.W.Frag} {mg : Str → Option Value} {base : Heap}
theorem scAd : FnScope ["thing", "index"] ["thing"] (defScope sIsAddr) := ⟨rfl, rfl, rfl, by decide +kernel, rfl, by decide +kernel, by decide +kernel⟩
theorem not_of_tup {d : PyData} (c : isD "tuple" (some d) = true) : ∃ ds, d = .tuple ds := by
  cases d <;> simp_all [isD, tyD]
theorem of_int {K : PySem.W.Frag} {H : Hp} {v : V} {d : Option PyData} (s : Sees K H v d) (c : dInt d = true) : ∃ i, v = .int i ∧ d = some (.int i) := by
  cases s with
  | odd o => cases c
  | thing t =>
    cases t with
    | int i => exact ⟨i, rfl, rfl⟩
    | non => cases c
    | bl b => cases c
    | str x => cases c
    | lst _ _ _ => cases c
    | tup _ _ => cases c
    | dct _ => cases c
theorem ok_isAddr {f fI : Addr} {fd fdI : FuncData} (F : Fun K "is_address" "is_address" sIsAddr f fd) (zIs : mg "isinstance" = none) (zT : mg "tuple" = none) (zLen : mg "len" = none) (zAll : mg "all" = none)
    (FI : FnOk Pg w K mg base CX0 1 fI fdI ["thing"] (spAsk K dInt)) (gI : mg "is_integer" = some (.ref fI)) (kI : PySem.W.keepIn K (.ref fI) = true) (bI : Binds K fdI ["thing"] []) :
    FnOk Pg w K mg base CX0 2 f fd ["thing"] (spAsk K dAddr) := by
  refine F.ok scAd (fun vs H Q E h => ?_) (fun cdv A outer s H vs Q E hr h => ?_)
  · obtain ⟨v, d, rfl, _⟩ := h
    rfl
  · obtain ⟨v, d, rfl, hs, sm, k⟩ := h
    obtain ⟨t, ty, kt⟩ := hs.kit
    refine ⟨_, pss_cons (ps_if (PW.pt (pw_or (pt_not (pt_val (pe_callB call_isi (by rfl) zIs (by decide +kernel) (pa_cons (pv 0) (pa_cons (pe_bltn (v := .ty "tuple") (by rfl) zT (by decide +kernel) rfl) pa_nil)))))
        (pw_or1 (pt_cmpR op_eq (pe_op op_mod (pe_callB call_len_seq (by rfl) zLen PySem.boot_len (pa_cons (pv 0) pa_nil)) pe_int) pe_int (nomark _)))))
        (pss_one (ps_ret pe_bl)) pss_nil)
      (pss_one (ps_ret (pe_callB (cr_all rfl) (by rfl) zAll (by decide +kernel) (pa_cons (pe_lc (own := [("index", 1)]) (g := gName 1) (tt := tYes) (by rfl) scAd.nd (pi_tup (pv 0)) (blkOk_by (own := [("index", 1)]) (N := ["thing", "index"]) (sc := defScope sIsAddr) (by decide +kernel)) (fun _ _ _ _ _ => pg_name (i := 1) scAd.nd rfl (Or.inl rfl)) (fun _ _ _ _ _ => pts_nil)
        (fun _ _ _ _ _ => pe_and (pe_call FI hr (by rfl) gI kI bI .nil pass0 (pa_cons (pv 1) pa_nil)) (pe_one (pe_cmpR op_ge (pv 1) pe_int (nomark _))))) pa_nil)))), ?_⟩
    refine ⟨_, rfl, v, .ty "tuple", t, .type "tuple", isD "tuple" d, rfl, .ty _, ty, kt _ (by decide), isD "tuple" d, rfl, ?_⟩
    by_cases c : isD "tuple" d = true
    · cases d with
      | none => simp [isD] at c
      | some d =>
        obtain ⟨ds, rfl⟩ := not_of_tup c
        cases hs with
        | thing tn =>
        cases tn with
        | @tup a xs ds e tn =>
        have sm2 : (decide (ds.length ≤ 10000) && smalls ds) = true := sm
        rw [Bool.and_eq_true] at sm2
        rw [c]
        refine ite2 (fun z => by cases z) (fun _ => ?_)
        refine ⟨_, rfl, a, xs, rfl, .inr (SqT.of e), _, _, rfl, rfl, (by show (0 : Int) < 2; decide), rfl, _, rfl, ?_⟩
        have ev : decide (V.int ((xs.length : Int) % 2) = V.int 0) = !decide (ds.length % 2 = 1) := by
          rw [← tn.length]
          by_cases z : xs.length % 2 = 1
          · rw [decide_eq_true z, decide_eq_false (fun y => by have := V.int.inj y; omega)]
            rfl
          · rw [decide_eq_false z, decide_eq_true (congrArg V.int (by omega))]
            rfl
        rw [ev]
        by_cases od : ds.length % 2 = 1
        · rw [decide_eq_true od]
          refine ite2 (fun z => by cases z) (fun _ => ?_)
          refine ⟨_, rfl, a, rfl, ⟨xs, SqT.of e⟩, fun D hD => lc_mf (keep := fun _ => true) (val := fun i => .bl (dNat (some (ds.getD i .none)))) hD (lt_line (by rw [tn.length]; exact of_decide_eq_true sm2.1)) (walks_tup (SqT.of e)) (fun i => rfl) (fun i H4 Z _ _ h => h H4 (Same.refl H4)) (fun i H4 Z hi _ s4 h => ?_) (fun H4 s4 hD4 => ?_)⟩
          · obtain ⟨d1, he, hg, ht⟩ := tna_at tn (i := i) (by rw [← tn.length]; exact hi)
            rw [hg] at h
            have see : Sees K H4 (xs.getD i .non) (some d1) := .thing (ht.keep s4)
            refine ⟨_, rfl, _, some d1, rfl, see, smalls_at sm2.2 he, fun H5 s5 => ⟨dInt (some d1), rfl, ?_⟩⟩
            refine ite2 (fun z => ?_) (fun z => ?_)
            · obtain ⟨n, hv, hd⟩ := of_int see z
              refine ⟨_, rfl, _, _, hv, rfl, ?_⟩
              have h5 := h H5 s5
              rw [hd] at h5
              exact h5
            · have h5 := h H5 s5
              have e0 : dNat (some d1) = false := by
                cases d1 <;> first | rfl | exact absurd rfl z
              rw [e0] at h5
              exact h5
          · refine ⟨D, _, rfl, bools_list hD4, ?_⟩
            have k' := k H4 s4
            have ef : ((List.range xs.length).map fun i => dNat (some (ds.getD i .none))).all id = dAddr (some (.tuple ds)) := by
              show _ = (decide (ds.length % 2 = 1) && ds.all fun d => dNat (some d))
              rw [decide_eq_true od, Bool.true_and, range_all]
              have y := all_getD PyData.none (fun d => dNat (some d)) ds
              rw [← tn.length] at y
              exact y
            rw [← ef] at k'
            exact k'
        · rw [decide_eq_false od]
          refine ite2 (fun _ => ?_) (fun z => absurd rfl z)
          have k' := k H (Same.refl H)
          have e0 : dAddr (some (.tuple ds)) = false := by
            show (decide (ds.length % 2 = 1) && _) = false
            rw [decide_eq_false od, Bool.false_and]
          rw [e0] at k'
          exact k'
    · have e : dAddr d = false := by
        cases d with
        | none => rfl
        | some d => cases d <;> simp_all [isD, dAddr, tyD]
      have k' := k H (Same.refl H)
      rw [e] at k'
      rw [eq_false_of_ne_true c]
      refine ite2 (fun _ => ?_) (fun z => absurd rfl z)
      exact ite2 (fun _ => k') (fun z => absurd rfl z)
end
abbrev sAlike : Stmt := top 65
abbrev sIsWord : Stmt := top 67
abbrev sLIsInt : Stmt := top 71
mutual
theorem Tn.dp {K : PySem.W.Frag} {H : Hp} : ∀ (d : PyData) (v : V), Tn H v d → d.hasDict = false → Dp K H v d
  | .none, _, .non, _ => .non
  | .bool _, _, .bl b, _ => .bl b
  | .int _, _, .int i, _ => .int i
  | .str _, _, .str x, _ => .str x
  | .list ds, _, .lst n h t, z => .lst (SqL.of h) (TnA.dp ds _ t (by simpa [PyData.hasDict] using z))
  | .tuple ds, _, .tup h t, z => .tup (SqT.of h) (TnA.dp ds _ t (by simpa [PyData.hasDict] using z))
  | .dict _, _, .dct _, z => by simp [PyData.hasDict] at z
theorem TnA.dp {K : PySem.W.Frag} {H : Hp} : ∀ (ds : List PyData) (vs : List V), TnA H vs ds → PyData.hasDictAll ds = false → DpAll K H vs ds
  | [], _, .nil, _ => .nil
  | d :: ds, _, .cons a t, z => by
    have z' : (d.hasDict || PyData.hasDictAll ds) = false := by simpa [PyData.hasDictAll] using z
    rw [Bool.or_eq_false_iff] at z'
    exact .cons (Tn.dp d _ a z'.1) (TnA.dp ds _ t z'.2)
end
section
variable {Pg : Program} {w : World} {K : PySem.W.Frag} {mg : Str → Option Value} {base : Heap}
theorem scAl : FnScope ["_law_found", "_law_due"] ["_law_found", "_law_due"] (defScope sAlike) := ⟨rfl, rfl, rfl, by decide +kernel, rfl, by decide +kernel, by decide +kernel⟩
/-- two things that read alike -/
def spAlike : Sp := fun vs H Q _ => ∃ (x y : V) (d : PyData), vs = [x, y] ∧ Tn H x d ∧ Tn H y d ∧ d.hasDict = false ∧ d.showable = true ∧ d.depth ≤ 30 ∧ SeqAt.shaped d = true ∧ d.shown.length ≤ sizeLine ∧ Q (.bl true) H
theorem ok_alike {f : Addr} {fd : FuncData} (F : Fun K "_law_alike" "_law_alike" sAlike f fd) (zR : mg "repr" = none) : FnG Pg w K mg base 2 f fd ["_law_found", "_law_due"] spAlike := by
  refine okG F scAl (fun vs H Q E h => ?_) (fun cdv A outer s H vs Q E hg hr h => ?_)
  · obtain ⟨x, y, d, rfl, _⟩ := h
    rfl
  · obtain ⟨x, y, d, rfl, hx, hy, nd, sh, dp, sp, sz, k⟩ := h
    refine ⟨_, pss_one (ps_ret (pe_and (pe_cmpR (op_eqD hr.units) (pv 0) (pv 1) (nomark _))
      (pe_one (pe_cmpR op_eq (pe_callB (call_reprT hg hr.units) (by rfl) zR (by decide +kernel) (pa_cons (pv 0) pa_nil)) (pe_callB (call_reprT hg hr.units) (by rfl) zR (by decide +kernel) (pa_cons (pv 1) pa_nil)) (nomark _))))), ?_⟩
    refine ⟨_, rfl, _, rfl, d, d, Tn.dp d _ hx nd, Tn.dp d _ hy nd, sp, sp, _, rfl, ?_⟩
    rw [SeqAt.eqv_refl _ (SeqAt.canLay_of_shaped sp)]
    refine ite2 (fun _ => ?_) (fun z => absurd rfl z)
    refine ⟨_, rfl, x, d, rfl, hx, sh, dp, sz, _, rfl, y, d, rfl, hy, sh, dp, sz, rfl, ?_⟩
    rw [decide_eq_true rfl]
    exact k
theorem scLI : FnScope ["_law_thing_here"] ["_law_thing_here"] (defScope sLIsInt) := ⟨rfl, rfl, rfl, by decide +kernel, rfl, by decide +kernel, by decide +kernel⟩
theorem ok_lInt {f : Addr} {fd : FuncData} (F : Fun K "_law_is_int" "_law_is_int" sLIsInt f fd) (zIs : mg "isinstance" = none) (zInt : mg "int" = none) (zBool : mg "bool" = none) : FnOk Pg w K mg base CX0 1 f fd ["_law_thing_here"] (spAsk K dInt) := by
  refine F.ok scLI (fun vs H Q E h => ?_) (fun cdv A outer s H vs Q E hr h => ?_)
  · obtain ⟨v, d, rfl, _⟩ := h
    rfl
  · obtain ⟨v, d, rfl, hs, _, k⟩ := h
    obtain ⟨t, ty, kt⟩ := hs.kit
    refine ⟨_, pss_one (ps_ret (pe_and (pe_callB call_isi (by rfl) zIs (by decide +kernel) (pa_cons (pv 0) (pa_cons (pe_bltn (v := .ty "int") (by rfl) zInt (by decide +kernel) rfl) pa_nil)))
      (pe_one (pe_not (pe_callB call_isi (by rfl) zIs (by decide +kernel) (pa_cons (pv 0) (pa_cons (pe_bltn (v := .ty "bool") (by rfl) zBool (by decide +kernel) rfl) pa_nil))))))), ?_⟩
    refine ⟨_, rfl, v, .ty "int", t, .type "int", isD "int" d, rfl, .ty _, ty, kt _ (by decide), isD "int" d, rfl, ?_⟩
    by_cases c : isD "int" d = true
    · rw [if_pos c]
      refine ⟨_, rfl, v, .ty "bool", t, .type "bool", isD "bool" d, rfl, .ty _, ty, kt _ (by decide), isD "bool" d, rfl, ?_⟩
      have e : (!isD "bool" d) = dInt d := by
        cases d with
        | none => simp [isD] at c
        | some d => cases d <;> simp_all [isD, dInt, tyD]
      rw [e]
      exact k H (Same.refl H)
    · rw [if_neg c]
      have e : false = dInt d := by
        cases d with
        | none => rfl
        | some d => cases d <;> simp_all [isD, dInt, tyD]
      rw [e]
      exact k H (Same.refl H)
theorem scW : FnScope ["_law_thing_here", "_law_sign"] ["_law_thing_here"] (defScope sIsWord) := ⟨rfl, rfl, rfl, by decide +kernel, rfl, by decide +kernel, by decide +kernel⟩
theorem sign_lt (a b : Nat) : decide ([a] < [b]) = decide (a < b) := by
  have e : ([a] < [b]) ↔ a < b := by
    rw [List.cons_lt_cons_iff]
    constructor
    · rintro (h | ⟨_, h⟩)
      · exact h
      · exact absurd h (by simp)
    · exact Or.inl
  by_cases h : a < b
  · rw [decide_eq_true h, decide_eq_true (e.mpr h)]
  · rw [decide_eq_false h, decide_eq_false (fun z => h (e.mp z))]
theorem filter_none {n : Nat} {p : Nat → Bool} : (((List.range n).filter fun i => !p i) = []) ↔ (List.range n).all p = true := by
  rw [List.filter_eq_nil_iff, List.all_eq_true]
  constructor
  · intro h x hx
    have := h x hx
    simpa using this
  · intro h x hx
    have := h x hx
    simpa using this
end
section
variable {X : Cx}
/-- xs == [] -/
def rNil (K : PySem.W.Frag) : R2 := fun x y H Q => ∃ (a b : Addr) (xs : List V), x = .ref a ∧ y = .ref b ∧ SqL K H a xs ∧ SqL K H b [] ∧ Q (.bl (decide (xs.length = 0))) H
theorem op_eqNil (hu : X.A.units < cLine) : OpR X (compareOp .Eq) (rNil X.K) := by
  intro pins s σ H x y v u Q I rx ry h
  obtain ⟨a, b, xs, rfl, rfl, ha, hb, q⟩ := h
  cases (show v = Value.ref a from rx)
  cases (show u = Value.ref b from ry)
  obtain ⟨us, r1, p1, _⟩ := I.list ha
  obtain ⟨ws, r2, p2, _⟩ := I.list hb
  cases r2
  have hl := r1.length
  by_cases c : xs.length = 0
  · rw [decide_eq_true c] at q
    have z : us.toArray.size = ([] : List Value).toArray.size := by
      rw [List.size_toArray, ← hl, c]
      rfl
    have k := PySem.SeqAt.RcAt.lists (e := fun _ => true) p1.isList p2.isList z hu (fun j h1 h2 => absurd h2 (by simp))
    rw [List.all_eq_true.mpr (fun _ _ => rfl)] at k
    exact k X.prog X.w X.xe _ ⟨.bl true, H, I, rfl, q⟩
  · rw [decide_eq_false c] at q
    have z : (us.toArray.size != ([] : List Value).toArray.size) = true := by
      rw [List.size_toArray, ← hl]
      exact bne_iff_ne.mpr c
    exact PySem.SeqAt.RcAt.lists_lengths p1.isList p2.isList z hu X.prog X.w X.xe _ ⟨.bl false, H, I, rfl, q⟩
end
section
variable {Pg : Program} {w : World} {K : PySem.W.Frag} {mg : Str → Option Value} {base : Heap}
theorem fil_len {n : Nat} {p : Nat → Bool} {f : Nat → V} : decide ((((List.range n).filter fun i => !p i).map f).length = 0) = (List.range n).all p := by
  rw [List.length_map]
  by_cases c : (List.range n).all p = true
  · rw [c, filter_none.mpr c]
    rfl
  · rw [Bool.eq_false_iff.mpr c]
    refine decide_eq_false fun z => c (filter_none.mp (List.length_eq_zero_iff.mp z))
theorem ok_lWord {f : Addr} {fd : FuncData} (F : Fun K "_law_is_word" "_law_is_word" sIsWord f fd) (zIs : mg "isinstance" = none) (zS : mg "str" = none) (zLen : mg "len" = none) : FnOk Pg w K mg base CX0 1 f fd ["_law_thing_here"] (spAsk K dName) := by
  refine F.ok scW (fun vs H Q E h => ?_) (fun cdv A outer s H vs Q E hr h => ?_)
  · obtain ⟨v, d, rfl, _⟩ := h
    rfl
  · obtain ⟨v, d, rfl, hs, sm, k⟩ := h
    obtain ⟨t, ty, kt⟩ := hs.kit
    refine ⟨_, pss_cons (ps_if (PW.pt (pw_or (pt_not (pt_val (pe_callB call_isi (by rfl) zIs (by decide +kernel) (pa_cons (pv 0) (pa_cons (pe_bltn (v := .ty "str") (by rfl) zS (by decide +kernel) rfl) pa_nil)))))
        (pw_or1 (pt_not (pt_chain op_le op_le pe_int (pe_callB call_len_str (by rfl) zLen PySem.boot_len (pa_cons (pv 0) pa_nil)) pe_int)))))
        (pss_one (ps_ret pe_bl)) pss_nil)
      (pss_one (ps_ret (pe_cmpR (op_eqNil (Nat.lt_of_le_of_lt (Nat.le_add_right _ 64) hr.units)) (pe_lc (own := [("_law_sign", 1)]) (g := gName 1) (by rfl) scW.nd (pi_str (pv 0)) (blkOk_by (own := [("_law_sign", 1)]) (N := ["_law_thing_here", "_law_sign"]) (sc := defScope sIsWord) (by decide +kernel)) (fun _ _ _ _ _ => pg_name (i := 1) scW.nd rfl (Or.inl rfl)) (fun _ _ _ _ _ => pts_one (pt_not (pt_chain op_le_str op_le_str pe_str (pv 1) pe_str)))
        (fun _ _ _ _ _ => pv 1)) (pe_lst pa_nil) (nomark _)))), ?_⟩
    refine ⟨_, rfl, v, .ty "str", t, .type "str", isD "str" d, rfl, .ty _, ty, kt _ (by decide), isD "str" d, rfl, ?_⟩
    by_cases c : isD "str" d = true
    · cases d with
      | none => simp [isD] at c
      | some d =>
        obtain ⟨x, rfl⟩ := not_of_str c
        cases hs with
        | thing tn =>
        cases tn
        have sl : x.length ≤ 100 := by simpa [smallO, small] using sm
        rw [c]
        refine ite2 (fun z => by cases z) (fun _ => ?_)
        refine ⟨_, rfl, x, rfl, Nat.le_trans sl (by decide), _, _, rfl, rfl, _, rfl, ?_⟩
        have bad : ¬(1 ≤ x.length ∧ x.length ≤ 8) → Q (.bl false) H := fun z => by
          have e : dName (some (.str x)) = false := by
            show (decide (1 ≤ x.length) && decide (x.length ≤ 8) && _) = false
            by_cases z1 : 1 ≤ x.length
            · rw [decide_eq_false (fun z2 : x.length ≤ 8 => z ⟨z1, z2⟩), Bool.and_false, Bool.false_and]
            · rw [decide_eq_false z1, Bool.false_and, Bool.false_and]
          have k' := k H (Same.refl H)
          rw [e] at k'
          exact k'
        refine ite2 (fun z1 => ?_) (fun z1 => ?_)
        · have l1 : (1 : Int) ≤ x.length := of_decide_eq_true z1
          refine ⟨_, _, rfl, rfl, _, rfl, ?_⟩
          refine ite2 (fun z2 => ?_) (fun z2 => ?_)
          · exact bad (fun z => by
              have : decide ((x.length : Int) ≤ 8) = true := decide_eq_true (by omega)
              rw [this] at z2
              cases z2)
          · have l2 : (x.length : Int) ≤ 8 := by
              by_cases z : (x.length : Int) ≤ 8
              · exact z
              · rw [decide_eq_false z] at z2
                exact absurd rfl z2
            refine ⟨_, rfl, x, rfl, fun D hD => lc_mf (keep := fun i => !decide (97 ≤ x.cps.toList.getD i 0 ∧ x.cps.toList.getD i 0 ≤ 122)) (val := fun i => .str ⟨#[x.cps.toList.getD i 0]⟩) hD (lt_line (Nat.le_trans sl (by decide))) walks_str (fun i => rfl) (fun i H4 Z hi s4 h => ?_) (fun i H4 Z hi _ s4 h => ⟨_, rfl, h H4 (Same.refl H4)⟩) (fun H4 s4 hD4 => ?_)⟩
            · have h4 := h H4 (Same.refl H4)
              generalize x.cps.toList.getD i 0 = cc at h4 ⊢
              refine ⟨_, rfl, _, _, rfl, rfl, _, rfl, ?_⟩
              have e1 : decide ([cc] < [97]) = decide (cc < 97) := sign_lt cc 97
              have e2 : decide ([122] < [cc]) = decide (122 < cc) := sign_lt 122 cc
              refine ite2 (fun a => ?_) (fun a => ?_)
              · refine ⟨_, _, rfl, rfl, _, rfl, ?_⟩
                have a' : (!decide ([cc] < [97])) = true := a
                rw [e1] at a'
                have e3 : decide (97 ≤ cc ∧ cc ≤ 122) = !decide ([122] < [cc]) := by
                  rw [e2]
                  by_cases b : 122 < cc
                  · rw [decide_eq_true b, decide_eq_false (fun z => by omega)]
                    rfl
                  · rw [decide_eq_false b, decide_eq_true (by
                      refine ⟨?_, by omega⟩
                      by_cases y : cc < 97
                      · rw [decide_eq_true y] at a'
                        cases a'
                      · omega)]
                    rfl
                rw [e3] at h4
                exact h4
              · refine ⟨_, rfl, ?_⟩
                have a' : ¬(!decide ([cc] < [97])) = true := a
                rw [e1] at a'
                have e3 : decide (97 ≤ cc ∧ cc ≤ 122) = false := decide_eq_false fun z => a' (by
                  rw [decide_eq_false (by omega)]
                  rfl)
                rw [e3] at h4
                exact h4
            · refine ⟨by decide, fun D2 hD2 => ?_⟩
              have nD : D ≠ D2 := ne_of_none hD4 hD2
              refine ⟨D, D2, _, rfl, rfl, SqL.of (by rw [upd_ne nD]; exact hD4), SqL.of upd_same, ?_⟩
              have ef := fil_len (n := x.cps.size) (p := fun i => decide (97 ≤ x.cps.toList.getD i 0 ∧ x.cps.toList.getD i 0 ≤ 122)) (f := fun i => .str ⟨#[x.cps.toList.getD i 0]⟩)
              have y := all_getD 0 (fun c => decide (97 ≤ c ∧ c ≤ 122)) x.cps.toList
              rw [Array.length_toList] at y
              rw [y] at ef
              have k' := k _ (upd_fresh (u := .lst []) s4 (s4.free hD2))
              have e : dName (some (.str x)) = (x.cps.toList.all fun c => decide (97 ≤ c ∧ c ≤ 122)) := by
                have a1 : decide (1 ≤ x.length) = true := decide_eq_true (by omega)
                have a2 : decide (x.length ≤ 8) = true := decide_eq_true (by omega)
                show (decide (1 ≤ x.length) && decide (x.length ≤ 8) && _) = _
                rw [a1, a2, Bool.true_and, Bool.true_and]
              rw [e, ← ef] at k'
              exact k'
        · have l1 : ¬(1 : Int) ≤ x.length := fun z => z1 (decide_eq_true z)
          refine ⟨_, rfl, ?_⟩
          exact bad (fun z => l1 (by omega))
    · have e : dName d = false := by
        cases d with
        | none => rfl
        | some d => cases d <;> simp_all [isD, dName, tyD]
      have k' := k H (Same.refl H)
      rw [e] at k'
      rw [eq_false_of_ne_true c]
      refine ite2 (fun _ => ?_) (fun z => absurd rfl z)
      exact ite2 (fun _ => k') (fun z => absurd rfl z)
end
abbrev sRight : Stmt := top 72
abbrev NR : List Str := ["_law_thing_here", "_law_upto", "_law_is_text", "_law_is_list", "_law_due", "_law_one", "_law_good", "_law_found"]
theorem scR : FnScope NR ["_law_thing_here", "_law_upto"] (defScope sRight) := ⟨rfl, rfl, rfl, by decide +kernel, rfl, by decide +kernel, by decide +kernel⟩
section
variable {Pg : Program} {w : World} {K : PySem.W.Frag} {mg : Str → Option Value} {base : Heap}
/-- a def of the text, ready to be called -/
structure Cal (Pg : Program) (w : World) (K : PySem.W.Frag) (mg : Str → Option Value) (base : Heap) (k : Nat) (x : Str) (ps : List Str) (sp : Sp) (f : Addr) (fd : FuncData) : Prop where
  ok : FnOk Pg w K mg base CX0 k f fd ps sp
  mg : mg x = some (.ref f)
  kp : PySem.W.keepIn K (.ref f) = true
  bd : Binds K fd ps []
structure CalG (Pg : Program) (w : World) (K : PySem.W.Frag) (mg : Str → Option Value) (base : Heap) (k : Nat) (x : Str) (ps : List Str) (sp : Sp) (f : Addr) (fd : FuncData) : Prop where
  ok : FnG Pg w K mg base k f fd ps sp
  mg : mg x = some (.ref f)
  kp : PySem.W.keepIn K (.ref f) = true
  bd : Binds K fd ps []
/-- what the law's look leans on -/
structure Lean11 (Pg : Program) (w : World) (K : PySem.W.Frag) (mg : Str → Option Value) (base : Heap) : Prop where
  zIs : mg "isinstance" = none
  zS : mg "str" = none
  zL : mg "list" = none
  zT : mg "tuple" = none
  zLen : mg "len" = none
  zI : mg "int" = none
  lInt : ∃ f fd, Cal Pg w K mg base 1 "_law_is_int" ["_law_thing_here"] (spAsk K dInt) f fd
  lWord : ∃ f fd, Cal Pg w K mg base 1 "_law_is_word" ["_law_thing_here"] (spAsk K dName) f fd
  alike : ∃ f fd, CalG Pg w K mg base 2 "_law_alike" ["_law_found", "_law_due"] spAlike f fd
  isInt : ∃ f fd, Cal Pg w K mg base 1 "is_integer" ["thing"] (spAsk K dInt) f fd
  isName : ∃ f fd, Cal Pg w K mg base 1 "is_name" ["thing"] (spAsk K dName) f fd
  isUse : ∃ f fd, Cal Pg w K mg base 2 "is_use" ["thing"] (spAsk K (dOne ["look", "put"])) f fd
  isWay : ∃ f fd, Cal Pg w K mg base 2 "is_way" ["thing"] (spAsk K (dOne ["again", "answer", "end", "fail", "leave", "shut"])) f fd
  isHand : ∃ f fd, Cal Pg w K mg base 2 "is_handing" ["thing"] (spAsk K (dOne ["none", "value", "state"])) f fd
  areNames : ∃ f fd, Cal Pg w K mg base 2 "are_names" ["thing", "most"] (spNames K) f fd
  isAddr : ∃ f fd, Cal Pg w K mg base 2 "is_address" ["thing"] (spAsk K dAddr) f fd
theorem smo_same {H H' : Hp} (m : Smo H) (s : Same H H') : Smo H' := by
  obtain ⟨u, e⟩ := m
  exact ⟨u, s _ _ e⟩
def spRight : Sp := fun vs H Q _ => ∃ (v : V) (d : PyData) (most : Int), vs = [v, .int most] ∧ Tn H v d ∧ small d = true ∧ Smo H ∧ ∀ H', Same H H' → Q (.bl true) H'
theorem isD_str {H : Hp} {v : V} {d : PyData} (t : Tn H v d) (c : isD "str" (some d) = true) : ∃ x, v = .str x ∧ d = .str x := by
  obtain ⟨x, rfl⟩ := not_of_str c
  cases t
  exact ⟨x, rfl, rfl⟩
theorem one_no {ws : List Str} {d : PyData} (c : ¬isD "str" (some d) = true) : dOne ws (some d) = false := by
  cases d <;> simp_all [isD, dOne, tyD]
theorem isList_kit {K : PySem.W.Frag} {H : Hp} {v : V} {d : Option PyData} (hs : Sees K H v d) : ∃ t, TyX K H v t ∧ PySem.W.kitAny K t [.type "list", .type "tuple"] = some (dList d) := by
  obtain ⟨t, ty, kt⟩ := hs.kit
  refine ⟨t, ty, kitAny_cons (kt _ (by decide)) (fun e1 => kitAny_cons (b := isD "tuple" d) (kt _ (by decide)) (fun e2 => ?_) (fun e2 => ?_)) (fun e1 => ?_)⟩
  · have e : dList d = false := by
      cases d with
      | none => rfl
      | some d => cases d <;> simp_all [isD, dList, tyD]
    rw [e]
    exact kitAny_nil
  · cases d with
    | none => simp [isD] at e2
    | some d => cases d <;> simp_all [isD, dList, tyD]
  · cases d with
    | none => simp [isD] at e1
    | some d => cases d <;> simp_all [isD, dList, tyD]
abbrev st0 : Stmt := .Pass ⟨0, 0, 0, 0⟩
abbrev XR (Pg : Program) (w : World) (K : PySem.W.Frag) (mg : Str → Option Value) (base : Heap) (f : Addr) (cdv : Value) (A : Around) (outer : List Env) (s : Shared) (H : Hp) (E : XK) : Cx := (cxOf CX0 Pg w K mg base NR "_law_right" (defScope sRight) f cdv A outer s H E).nox
/-- the list at p has grown, nothing else is changed -/
def Grow (p : Addr) (xs : List V) (H H' : Hp) : Prop := H' p = some (.lst xs) ∧ ∀ b o, b ≠ p → H b = some o → H' b = some o
theorem Grow.same {p : Addr} {xs : List V} {H0 H H' : Hp} (g : Grow p xs H H') (s : Same H0 H) (n : H0 p = none) : Same H0 H' := fun b o e => g.2 b o (ne_of_none e n) (s b o e)
theorem grow_of {p : Addr} {xs ys : List V} {H H' : Hp} (s : Same H H') (h : H p = some (.lst ys)) : Grow p xs H (upd H' p (.lst xs)) := ⟨upd_same, fun b o n e => by
  rw [upd_ne n]
  exact s b o e⟩
def tStrs : List Str → TA
  | [] => tNil
  | x :: xs => tCons (tC (V.str x)) (tStrs xs)
theorem strs_run : ∀ (ws : List Str) (σ : St) (H : Hp) (Q : List V → Hp → Prop), Q (ws.map V.str) H → tStrs ws σ H Q
  | [], _, _, _, h => h
  | x :: xs, σ, H, Q, h => strs_run xs σ H (fun vs H1 => Q (V.str x :: vs) H1) h
theorem and_in {K : PySem.W.Frag} {σ : St} {H : Hp} {Q : VK} {v : V} {d : PyData} {ws : List Str} (h0 : σ[0]? = some (some v)) (h2 : σ[2]? = some (some (.bl (isD "str" (some d))))) (tn : Tn H v d) (few : ws.length ≤ 100)
    (k : ∀ H', Same H H' → Q (.bl (dOne ws (some d))) H') : tAndV (tVar 2) (tOp (rIn K false) (tVar 0) (tTup (tStrs ws))) σ H Q := by
  refine ⟨_, h2, _, rfl, ?_⟩
  by_cases c : isD "str" (some d) = true
  · rw [if_pos c]
    obtain ⟨x, rfl, rfl⟩ := isD_str tn c
    refine ⟨_, h0, strs_run ws _ _ _ ⟨by rw [List.length_map]; exact Nat.le_trans few (by decide), fun p hp => ?_⟩⟩
    refine ⟨p, ws.map V.str, rfl, .inr (SqT.of upd_same), rfl, all_flat ws, ?_⟩
    rw [if_neg (by decide), in_strs]
    exact k _ (upd_fresh (Same.refl H) hp)
  · rw [if_neg c]
    have k' := k H (Same.refl H)
    rw [one_no c] at k'
    exact k'
theorem names_no {d : PyData} {m : Int} (c : ¬dList (some d) = true) : dNames m (some d) = false := by
  cases d <;> simp_all [dList, dNames]
theorem see_at {K : PySem.W.Frag} {H H4 : Hp} {xs : List V} {ds : List PyData} (tn : TnA H xs ds) (ss : smalls ds = true) {i : Nat} (lt : i < xs.length) (s4 : Same H H4) : Sees K H4 (xs.getD i .non) (some (ds.getD i .none)) ∧ small (ds.getD i .none) = true := by
  obtain ⟨e, he, hg, ht⟩ := tna_at tn (i := i) (by rw [← tn.length]; exact lt)
  rw [hg]
  exact ⟨.thing (ht.keep s4), smalls_at ss he⟩
theorem st5 {f f2 : Addr} {d2 : FuncData} {cdv : Value} {A : Around} {outer : List Env} {s : Shared} {H : Hp} {E : XK} (zLen : mg "len" = none) (C2 : Cal Pg w K mg base 1 "_law_is_word" ["_law_thing_here"] (spAsk K dName) f2 d2) (hr : Room 2 (XR Pg w K mg base f cdv A outer s H E).A) :
    ∃ t, PS (XR Pg w K mg base f cdv A outer s H E) ((defBody sRight).getD 4 st0) t ∧ ∀ (D : Ends) (v : V) (d : PyData) (most : Int) (p : Addr) (bs : List V) (x2 x5 x6 x7 : Option V) (H0 : Hp), Tn H0 v d → small d = true → H0 p = some (.lst bs) → bs.length ≤ 10 →
      (∀ H', Grow p (bs ++ [.bl (dNames most (some d))]) H0 H' → D.nx [some v, some (.int most), x2, some (.bl (dList (some d))), some (.ref p), x5, x6, x7] H') → t D [some v, some (.int most), x2, some (.bl (dList (some d))), some (.ref p), x5, x6, x7] H0 := by
  have hr1 : Room 1 (XR Pg w K mg base f cdv A outer s H E).A := hr.mono (by decide)
  refine ⟨_, ps_expr (pe_bm PySem.F.plainAttrs_list PySem.F.slot_list_append PySem.F.type_list_append mt_append (pv 4) (pa_cons (pe_and (pv 3) (pe_and (pe_cmpR op_le (pe_callB call_len_seq (by rfl) zLen PySem.boot_len (pa_cons (pv 0) pa_nil)) (pv 1) (nomark _))
          (pe_one (pe_cmpR (op_eqNil (Nat.lt_of_le_of_lt (Nat.le_add_right _ 64) hr.units)) (pe_lc (own := [("_law_one", 5)]) (g := gName 5) (by rfl) scR.nd (pi_or (pi_list (pv 0)) (pi_tup (pv 0))) (blkOk_by (own := [("_law_one", 5)]) (N := NR) (sc := defScope sRight) (by decide +kernel)) (fun _ _ _ _ _ => pg_name (i := 5) scR.nd rfl (Or.inl rfl)) (fun _ _ _ _ _ => pts_one (pt_not (pt_val (pe_call C2.ok hr1 (by rfl) C2.mg C2.kp C2.bd .nil pass0 (pa_cons (pv 5) pa_nil)))))
            (fun _ _ _ _ _ => pv 5)) (pe_lst pa_nil) (nomark _))))) pa_nil)), ?_⟩
  intro D v d most p bs x2 x5 x6 x7 H0 tn sm hp few kn
  refine ⟨_, rfl, .inl ⟨rfl, _, SqL.of hp⟩, _, rfl, _, rfl, ?_⟩
  have lt1 : bs.length < sizeLine := Nat.lt_of_le_of_lt few (by decide)
  by_cases c : dList (some d) = true
  · rw [if_pos c]
    cases tn with
    | non => cases c
    | bl b => cases c
    | int i => cases c
    | str x => cases c
    | dct e => cases c
    | @lst a xs ds na e tn =>
      have sm2 : (decide (ds.length ≤ 10000) && smalls ds) = true := sm
      rw [Bool.and_eq_true] at sm2
      refine ⟨_, rfl, a, xs, rfl, .inl (SqL.of e), _, rfl, _, _, rfl, rfl, _, rfl, ?_⟩
      refine ite2 (fun lm => ?_) (fun lm => ?_)
      · refine .inl ⟨_, rfl, a, rfl, ⟨xs, SqL.of e⟩, fun D1 hD1 => lc_mf (keep := fun i => !dName (some (ds.getD i .none))) (val := fun i => xs.getD i .non) hD1 (lt_line (by rw [tn.length]; exact of_decide_eq_true sm2.1)) (walks_list (SqL.of e)) (fun i => rfl) (fun i H4 Z hi s4 h => ?_) (fun i H4 Z hi _ s4 h => ⟨_, rfl, h H4 (Same.refl H4)⟩) (fun H4 s4 hD4 => ?_)⟩
        · obtain ⟨see, sme⟩ := see_at (K := K) tn sm2.2 hi s4
          exact ⟨_, rfl, _, _, rfl, see, sme, fun H5 s5 => ⟨_, rfl, h H5 s5⟩⟩
        · refine ⟨by decide, fun D2 hD2 => ?_⟩
          refine ⟨D1, D2, _, rfl, rfl, SqL.of (by rw [upd_ne (ne_of_none hD4 hD2)]; exact hD4), SqL.of upd_same, ?_⟩
          have s5 : Same H0 (upd H4 D2 (.lst [])) := upd_fresh s4 (s4.free hD2)
          refine ⟨p, _, _, rfl, rfl, s5 _ _ hp, lt1, kn _ ?_⟩
          have ef := fil_len (n := xs.length) (p := fun i => dName (some (ds.getD i .none))) (f := fun i => xs.getD i .non)
          have y := all_getD PyData.none (fun d => dName (some d)) ds
          rw [← tn.length] at y
          rw [y] at ef
          have e1 : dNames most (some (.list ds)) = ds.all fun d => dName (some d) := by
            show (decide ((ds.length : Int) ≤ most) && _) = _
            have lm' : decide ((xs.length : Int) ≤ most) = true := lm
            rw [← tn.length, lm', Bool.true_and]
          rw [e1, ← ef]
          exact grow_of s5 hp
      · refine ⟨p, _, _, rfl, rfl, hp, lt1, kn _ ?_⟩
        have e0 : dNames most (some (.list ds)) = false := by
          show (decide ((ds.length : Int) ≤ most) && _) = false
          rw [← tn.length, Bool.eq_false_iff.mpr lm, Bool.false_and]
        rw [e0]
        exact grow_of (Same.refl H0) hp
    | @tup a xs ds e tn =>
      have sm2 : (decide (ds.length ≤ 10000) && smalls ds) = true := sm
      rw [Bool.and_eq_true] at sm2
      refine ⟨_, rfl, a, xs, rfl, .inr (SqT.of e), _, rfl, _, _, rfl, rfl, _, rfl, ?_⟩
      refine ite2 (fun lm => ?_) (fun lm => ?_)
      · refine .inr ⟨_, rfl, a, rfl, ⟨xs, SqT.of e⟩, fun D1 hD1 => lc_mf (keep := fun i => !dName (some (ds.getD i .none))) (val := fun i => xs.getD i .non) hD1 (lt_line (by rw [tn.length]; exact of_decide_eq_true sm2.1)) (walks_tup (SqT.of e)) (fun i => rfl) (fun i H4 Z hi s4 h => ?_) (fun i H4 Z hi _ s4 h => ⟨_, rfl, h H4 (Same.refl H4)⟩) (fun H4 s4 hD4 => ?_)⟩
        · obtain ⟨see, sme⟩ := see_at (K := K) tn sm2.2 hi s4
          exact ⟨_, rfl, _, _, rfl, see, sme, fun H5 s5 => ⟨_, rfl, h H5 s5⟩⟩
        · refine ⟨by decide, fun D2 hD2 => ?_⟩
          refine ⟨D1, D2, _, rfl, rfl, SqL.of (by rw [upd_ne (ne_of_none hD4 hD2)]; exact hD4), SqL.of upd_same, ?_⟩
          have s5 : Same H0 (upd H4 D2 (.lst [])) := upd_fresh s4 (s4.free hD2)
          refine ⟨p, _, _, rfl, rfl, s5 _ _ hp, lt1, kn _ ?_⟩
          have ef := fil_len (n := xs.length) (p := fun i => dName (some (ds.getD i .none))) (f := fun i => xs.getD i .non)
          have y := all_getD PyData.none (fun d => dName (some d)) ds
          rw [← tn.length] at y
          rw [y] at ef
          have e1 : dNames most (some (.tuple ds)) = ds.all fun d => dName (some d) := by
            show (decide ((ds.length : Int) ≤ most) && _) = _
            have lm' : decide ((xs.length : Int) ≤ most) = true := lm
            rw [← tn.length, lm', Bool.true_and]
          rw [e1, ← ef]
          exact grow_of s5 hp
      · refine ⟨p, _, _, rfl, rfl, hp, lt1, kn _ ?_⟩
        have e0 : dNames most (some (.tuple ds)) = false := by
          show (decide ((ds.length : Int) ≤ most) && _) = false
          rw [← tn.length, Bool.eq_false_iff.mpr lm, Bool.false_and]
        rw [e0]
        exact grow_of (Same.refl H0) hp
  · rw [if_neg c]
    refine ⟨p, _, _, rfl, rfl, hp, lt1, kn _ ?_⟩
    rw [names_no c]
    exact grow_of (Same.refl H0) hp
def odd (d : PyData) : Bool := match d with
  | .tuple ds => decide (ds.length % 2 = 1)
  | _ => false
theorem st6 {f : Addr} {cdv : Value} {A : Around} {outer : List Env} {s : Shared} {H : Hp} {E : XK} (zIs : mg "isinstance" = none) (zT : mg "tuple" = none) (zLen : mg "len" = none) (zI : mg "int" = none) :
    ∃ t, PS (XR Pg w K mg base f cdv A outer s H E) ((defBody sRight).getD 5 st0) t ∧ ∀ (D : Ends) (v : V) (d : PyData) (x1 x2 x3 x4 x5 x6 x7 : Option V) (H0 : Hp), Tn H0 v d →
      D.nx [some v, x1, x2, x3, x4, x5, some (.bl (odd d)), x7] H0 → t D [some v, x1, x2, x3, x4, x5, x6, x7] H0 := by
  refine ⟨_, ps_set (i := 6) scR.nd rfl (Or.inl rfl) (pe_and (pe_callB call_isi (by rfl) zIs (by decide +kernel) (pa_cons (pv 0) (pa_cons (pe_bltn (v := .ty "tuple") (by rfl) zT (by decide +kernel) rfl) pa_nil)))
        (pe_one (pe_cmpR op_eq (pe_op op_mod (pe_callTy call_int1 (by rfl) zI (by decide +kernel) (pa_cons (pe_callB call_len_seq (by rfl) zLen PySem.boot_len (pa_cons (pv 0) pa_nil)) pa_nil)) pe_int) pe_int (nomark _)))), ?_⟩
  intro D v d x1 x2 x3 x4 x5 x6 x7 H0 tn kn
  obtain ⟨t, ty, kt⟩ := (Sees.thing (K := K) tn).kit
  refine ⟨_, rfl, v, .ty "tuple", t, .type "tuple", isD "tuple" (some d), rfl, .ty _, ty, kt _ (by decide), isD "tuple" (some d), rfl, ?_⟩
  by_cases c : isD "tuple" (some d) = true
  · rw [if_pos c]
    obtain ⟨ds, rfl⟩ := not_of_tup c
    cases tn with
    | @tup a xs ds e tn =>
    refine ⟨_, rfl, a, xs, rfl, .inr (SqT.of e), .inl ⟨_, rfl, _, _, rfl, rfl, (by show (0 : Int) < 2; decide), rfl, ?_⟩⟩
    have ev : decide (V.int ((xs.length : Int) % 2) = V.int 1) = odd (.tuple ds) := by
      show _ = decide (ds.length % 2 = 1)
      rw [← tn.length]
      by_cases z : xs.length % 2 = 1
      · rw [decide_eq_true z, decide_eq_true (congrArg V.int (by omega))]
      · rw [decide_eq_false z, decide_eq_false (fun y => by have := V.int.inj y; omega)]
    rw [ev]
    exact kn
  · rw [if_neg c]
    have e : odd d = false := by
      cases d <;> simp_all [isD, odd, tyD]
    rw [e] at kn
    exact kn
theorem st7 {f f1 : Addr} {d1 : FuncData} {cdv : Value} {A : Around} {outer : List Env} {s : Shared} {H : Hp} {E : XK} (C1 : Cal Pg w K mg base 1 "_law_is_int" ["_law_thing_here"] (spAsk K dInt) f1 d1) (hr : Room 2 (XR Pg w K mg base f cdv A outer s H E).A) :
    ∃ t, PS (XR Pg w K mg base f cdv A outer s H E) ((defBody sRight).getD 6 st0) t ∧ ∀ (D : Ends) (v : V) (d : PyData) (p : Addr) (bs : List V) (x1 x2 x3 x5 x7 : Option V) (H0 : Hp), Tn H0 v d → small d = true → H0 p = some (.lst bs) → bs.length ≤ 10 →
      (∀ H', Grow p (bs ++ [.bl (dAddr (some d))]) H0 H' → D.nx [some v, x1, x2, x3, some (.ref p), x5, some (.bl (odd d)), x7] H') → t D [some v, x1, x2, x3, some (.ref p), x5, some (.bl (odd d)), x7] H0 := by
  have hr1 : Room 1 (XR Pg w K mg base f cdv A outer s H E).A := hr.mono (by decide)
  refine ⟨_, ps_expr (pe_bm PySem.F.plainAttrs_list PySem.F.slot_list_append PySem.F.type_list_append mt_append (pv 4) (pa_cons (pe_and (pv 6)
          (pe_one (pe_cmpR (op_eqNil (Nat.lt_of_le_of_lt (Nat.le_add_right _ 64) hr.units)) (pe_lc (own := [("_law_one", 5)]) (g := gName 5) (by rfl) scR.nd (pi_tup (pv 0)) (blkOk_by (own := [("_law_one", 5)]) (N := NR) (sc := defScope sRight) (by decide +kernel)) (fun _ _ _ _ _ => pg_name (i := 5) scR.nd rfl (Or.inl rfl))
            (fun _ _ _ _ _ => pts_one (PW.pt (pw_or (pt_not (pt_val (pe_call C1.ok hr1 (by rfl) C1.mg C1.kp C1.bd .nil pass0 (pa_cons (pv 5) pa_nil)))) (pw_or1 (pt_cmpR op_lt (pv 5) pe_int (nomark _))))))
            (fun _ _ _ _ _ => pv 5)) (pe_lst pa_nil) (nomark _)))) pa_nil)), ?_⟩
  intro D v d p bs x1 x2 x3 x5 x7 H0 tn sm hp few kn
  refine ⟨_, rfl, .inl ⟨rfl, _, SqL.of hp⟩, _, rfl, _, rfl, ?_⟩
  have lt1 : bs.length < sizeLine := Nat.lt_of_le_of_lt few (by decide)
  by_cases c : odd d = true
  · rw [if_pos c]
    cases tn with
    | non => cases c
    | bl b => cases c
    | int i => cases c
    | str x => cases c
    | dct e => cases c
    | lst _ _ _ => cases c
    | @tup a xs ds e tn =>
      have sm2 : (decide (ds.length ≤ 10000) && smalls ds) = true := sm
      rw [Bool.and_eq_true] at sm2
      refine ⟨_, rfl, a, rfl, ⟨xs, SqT.of e⟩, fun D1 hD1 => lc_mf (keep := fun i => !dNat (some (ds.getD i .none))) (val := fun i => xs.getD i .non) hD1 (lt_line (by rw [tn.length]; exact of_decide_eq_true sm2.1)) (walks_tup (SqT.of e)) (fun i => rfl) (fun i H4 Z hi s4 h => ?_) (fun i H4 Z hi _ s4 h => ⟨_, rfl, h H4 (Same.refl H4)⟩) (fun H4 s4 hD4 => ?_)⟩
      · obtain ⟨see, sme⟩ := see_at (K := K) tn sm2.2 hi s4
        refine ⟨_, rfl, _, _, rfl, see, sme, fun H5 s5 => ⟨_, rfl, ?_⟩⟩
        refine ite2 (fun z => ?_) (fun z => ?_)
        · have e0 : dNat (some (ds.getD i .none)) = false := by
            generalize ds.getD i .none = d1 at z
            cases d1 <;> first | rfl | cases z
          have h5 := h H5 s5
          rw [e0] at h5
          exact h5
        · have z2 : dInt (some (ds.getD i .none)) = true := by
            cases y : dInt (some (ds.getD i .none)) with
            | true => rfl
            | false => exact absurd (by rw [y]; rfl) z
          obtain ⟨n, hv, hd⟩ := of_int see z2
          refine ⟨_, rfl, _, _, hv, rfl, _, rfl, ?_⟩
          have h5 := h H5 s5
          rw [hd] at h5
          have e0 : (!dNat (some (.int n))) = decide (n < 0) := by
            show (!decide (0 ≤ n)) = _
            by_cases y : 0 ≤ n
            · rw [decide_eq_true y, decide_eq_false (by omega)]
              rfl
            · rw [decide_eq_false y, decide_eq_true (by omega)]
              rfl
          rw [e0] at h5
          exact h5
      · refine ⟨by decide, fun D2 hD2 => ?_⟩
        refine ⟨D1, D2, _, rfl, rfl, SqL.of (by rw [upd_ne (ne_of_none hD4 hD2)]; exact hD4), SqL.of upd_same, ?_⟩
        have s5 : Same H0 (upd H4 D2 (.lst [])) := upd_fresh s4 (s4.free hD2)
        refine ⟨p, _, _, rfl, rfl, s5 _ _ hp, lt1, kn _ ?_⟩
        have ef := fil_len (n := xs.length) (p := fun i => dNat (some (ds.getD i .none))) (f := fun i => xs.getD i .non)
        have y := all_getD PyData.none (fun d => dNat (some d)) ds
        rw [← tn.length] at y
        rw [y] at ef
        have e1 : dAddr (some (.tuple ds)) = ds.all fun d => dNat (some d) := by
          show (decide (ds.length % 2 = 1) && _) = _
          have c' : decide (ds.length % 2 = 1) = true := c
          rw [c', Bool.true_and]
        rw [e1, ← ef]
        exact grow_of s5 hp
  · rw [if_neg c]
    refine ⟨p, _, _, rfl, rfl, hp, lt1, kn _ ?_⟩
    have e0 : dAddr (some d) = false := by
      cases d with
      | tuple ds =>
        show (decide (ds.length % 2 = 1) && _) = false
        have c' : decide (ds.length % 2 = 1) = false := Bool.eq_false_iff.mpr c
        rw [c', Bool.false_and]
      | _ => rfl
    rw [e0]
    exact grow_of (Same.refl H0) hp
end
/-! ### data that fit: shown in full, not deep, short texts, no longer than B -/
structure Fit (n B : Nat) (d : PyData) : Prop where
  sh : d.showable = true
  dp : d.depth ≤ n
  sm : small d = true
  sz : d.shown.length ≤ B
theorem Fit.mono {n n' B B' : Nat} {d : PyData} (f : Fit n B d) (h1 : n ≤ n') (h2 : B ≤ B') : Fit n' B' d := ⟨f.sh, Nat.le_trans f.dp h1, f.sm, Nat.le_trans f.sz h2⟩
theorem fit_non : Fit 0 80 .none := ⟨by simp [PyData.showable], by simp [PyData.depth], rfl, by
  simp only [PyData.shown]
  decide⟩
theorem fit_bl (b : Bool) : Fit 0 80 (.bool b) := ⟨by simp [PyData.showable], by simp [PyData.depth], rfl, by
  simp only [PyData.shown]
  cases b <;> decide⟩
theorem fit_int {i : Int} (h : i.natAbs < 10 ^ 60) : Fit 0 80 (.int i) := ⟨by
  simp only [PyData.showable]
  refine decide_eq_true ?_
  by_cases z : i.natAbs = 0
  · rw [z]
    decide
  · exact Nat.lt_of_lt_of_le ((Nat.log2_lt z).mpr (Nat.lt_of_lt_of_le h (show 10 ^ 60 ≤ 2 ^ 200 by decide))) (by decide), by simp [PyData.depth], rfl, by
  simp only [PyData.shown]
  have e := int_text_length_le10 (k := 60) (by decide) h
  rw [PySem.ofString_length]
  omega⟩
theorem fit_str {x : Str} (h1 : x.length ≤ 100) (h2 : ∀ c ∈ x.cps.toList, c < 16 ^ 8) : Fit 0 (10 * x.length + 2) (.str x) := ⟨by simp [PyData.showable], by simp [PyData.depth], decide_eq_true h1, by
  simp only [PyData.shown]
  exact PySem.StrLaws.reprText_len x h2⟩
theorem fits_all {n B : Nat} : ∀ ds : List PyData, (∀ d ∈ ds, Fit n B d) → PyData.showableAll ds = true ∧ PyData.depthAll ds ≤ n ∧ smalls ds = true ∧ ((PyData.shownAll ds).map (·.length)).sum ≤ ds.length * B ∧ (PyData.shownAll ds).length = ds.length
  | [], _ => ⟨by simp [PyData.showableAll], by simp [PyData.depthAll], rfl, by simp [PyData.shownAll], by simp [PyData.shownAll]⟩
  | d :: ds, h => by
    obtain ⟨h1, h2, h3, h4, h5⟩ := fits_all ds fun e he => h e (List.mem_cons_of_mem _ he)
    have f := h d (List.mem_cons_self ..)
    refine ⟨?_, ?_, ?_, ?_, ?_⟩
    · simp only [PyData.showableAll, f.sh, h1, Bool.and_self]
    · simp only [PyData.depthAll]
      exact Nat.max_le.mpr ⟨f.dp, h2⟩
    · show (small d && smalls ds) = true
      rw [f.sm, h3]
      rfl
    · simp only [PyData.shownAll, List.map_cons, List.sum_cons, List.length_cons]
      have := f.sz
      rw [Nat.succ_mul]
      omega
    · simp only [PyData.shownAll, List.length_cons, h5]
theorem fit_list {n B m : Nat} {ds : List PyData} (h : ∀ d ∈ ds, Fit n B d) (hm : ds.length ≤ m) (hm2 : m ≤ 10000) : Fit (n + 1) (m * (B + 2) + 3) (.list ds) := by
  obtain ⟨h1, h2, h3, h4, h5⟩ := fits_all ds h
  refine ⟨by simpa only [PyData.showable] using h1, by simp only [PyData.depth]; omega, ?_, ?_⟩
  · show (decide (ds.length ≤ 10000) && smalls ds) = true
    rw [h3, decide_eq_true (Nat.le_trans hm hm2)]
    rfl
  · simp only [PyData.shown]
    have e := listText_len_le (PyData.shownAll ds)
    rw [h5] at e
    have e2 : ds.length * B ≤ m * B := Nat.mul_le_mul_right _ hm
    rw [Nat.mul_add]
    omega
theorem fit_tuple {n B m : Nat} {ds : List PyData} (h : ∀ d ∈ ds, Fit n B d) (hm : ds.length ≤ m) (hm2 : m ≤ 10000) : Fit (n + 1) (m * (B + 2) + 3) (.tuple ds) := by
  obtain ⟨h1, h2, h3, h4, h5⟩ := fits_all ds h
  refine ⟨by simpa only [PyData.showable] using h1, by simp only [PyData.depth]; omega, ?_, ?_⟩
  · show (decide (ds.length ≤ 10000) && smalls ds) = true
    rw [h3, decide_eq_true (Nat.le_trans hm hm2)]
    rfl
  · simp only [PyData.shown]
    have e := tupleText_len_le (PyData.shownAll ds)
    rw [h5] at e
    have e2 : ds.length * B ≤ m * B := Nat.mul_le_mul_right _ hm
    rw [Nat.mul_add]
    omega
/-! ### lists of bools -/
theorem tn_bools {H : Hp} : ∀ bs : List Bool, TnA H (bs.map V.bl) (bs.map PyData.bool)
  | [] => .nil
  | b :: bs => .cons (.bl b) (tn_bools bs)
theorem bools_lay : ∀ bs : List Bool, PyData.canLayAll0 (bs.map PyData.bool) = true ∧ PyData.hasDictAll (bs.map PyData.bool) = false
  | [] => ⟨by simp [PyData.canLayAll0], by simp [PyData.hasDictAll]⟩
  | b :: bs => by
    obtain ⟨h1, h2⟩ := bools_lay bs
    exact ⟨by simp [PyData.canLayAll0, PyData.canLay0, h1], by simp [PyData.hasDictAll, PyData.hasDict, h2]⟩
theorem bools_fit (bs : List Bool) (h : bs.length ≤ 100) : Fit 1 (100 * 82 + 3) (.list (bs.map PyData.bool)) := fit_list (fun d hd => by
  obtain ⟨b, _, rfl⟩ := List.mem_map.mp hd
  exact fit_bl b) (by rw [List.length_map]; exact h) (by decide)
theorem bools_shaped (bs : List Bool) (h : bs.length ≤ 100) : SeqAt.shaped (.list (bs.map PyData.bool)) = true := by
  show (PyData.canLay0 (.list (bs.map PyData.bool)) && decide (PyData.depth (.list (bs.map PyData.bool)) ≤ 64)) = true
  rw [Bool.and_eq_true]
  exact ⟨by simp only [PyData.canLay0]; exact (bools_lay bs).1, decide_eq_true (Nat.le_trans (bools_fit bs h).dp (by decide))⟩
theorem alike_bools {H : Hp} {p q : Addr} {bs : List Bool} {Q : VK} {E : XK} (h : bs.length ≤ 100) (np : p ≠ sysModules) (nq : q ≠ sysModules) (hp : H p = some (.lst (bs.map V.bl))) (hq : H q = some (.lst (bs.map V.bl))) (k : Q (.bl true) H) : spAlike [.ref p, .ref q] H Q E :=
  ⟨_, _, .list (bs.map PyData.bool), rfl, .lst np hp (tn_bools bs), .lst nq hq (tn_bools bs), by simp only [PyData.hasDict]; exact (bools_lay bs).2, (bools_fit bs h).sh, Nat.le_trans (bools_fit bs h).dp (by decide), bools_shaped bs h, Nat.le_trans (bools_fit bs h).sz (by decide), k⟩
section
variable {Pg : Program} {w : World} {K : PySem.W.Frag} {mg : Str → Option Value} {base : Heap}
theorem ok_right {f : Addr} {fd : FuncData} (F : Fun K "_law_right" "_law_right" sRight f fd) (L : Lean11 Pg w K mg base) : FnG Pg w K mg base 3 f fd ["_law_thing_here", "_law_upto"] spRight := by
  obtain ⟨zIs, zS, zL, zT, zLen, zI, ⟨f1, d1, C1⟩, ⟨f2, d2, C2⟩, ⟨f3, d3, C3⟩, ⟨f4, d4, C4⟩, ⟨f5, d5, C5⟩, ⟨f6, d6, C6⟩, ⟨f7, d7, C7⟩, ⟨f8, d8, C8⟩, ⟨f9, d9, C9⟩, ⟨f10, d10, C10⟩⟩ := L
  refine okG F scR (fun vs H Q E h => ?_) (fun cdv A outer s H vs Q E hg hr h => ?_)
  · obtain ⟨x, d, m, rfl, _⟩ := h
    rfl
  · obtain ⟨v, d, most, rfl, tn, sm, mo, k⟩ := h
    have hr1 : Room 1 (A.deeper (envOfC "_law_right" (defScope sRight) s.heap.objs.size f cdv)) := hr.mono (by decide)
    obtain ⟨t5, p5, q5⟩ := st5 (w := w) (base := base) (f := f) (cdv := cdv) (A := A) (outer := outer) (s := s) (H := H) (E := E) zLen C2 hr
    obtain ⟨t6, p6, q6⟩ := st6 (Pg := Pg) (w := w) (K := K) (base := base) (f := f) (cdv := cdv) (A := A) (outer := outer) (s := s) (H := H) (E := E) zIs zT zLen zI
    obtain ⟨t7, p7, q7⟩ := st7 (w := w) (base := base) (f := f) (cdv := cdv) (A := A) (outer := outer) (s := s) (H := H) (E := E) C1 hr
    refine ⟨_, pss_cons (ps_par (i := 2) (j := 3) (by rfl) scR.nd rfl rfl (by decide) rfl rfl (pa_cons (pe_callB call_isi (by rfl) zIs (by decide +kernel) (pa_cons (pv 0) (pa_cons (pe_bltn (v := .ty "str") (by rfl) zS (by decide +kernel) rfl) pa_nil)))
        (pa_cons (pe_callB call_isiT (by rfl) zIs (by decide +kernel) (pa_cons (pv 0) (pa_cons (pe_tup (pa_cons (pe_bltn (v := .ty "list") (by rfl) zL (by decide +kernel) rfl) (pa_cons (pe_bltn (v := .ty "tuple") (by rfl) zT (by decide +kernel) rfl) pa_nil))) pa_nil))) pa_nil)) (by rfl))
      (pss_cons (ps_set (i := 4) scR.nd rfl (Or.inl rfl) (pe_lst (pa_cons (pe_call C1.ok hr1 (by rfl) C1.mg C1.kp C1.bd .nil pass0 (pa_cons (pv 0) pa_nil)) (pa_cons (pe_call C2.ok hr1 (by rfl) C2.mg C2.kp C2.bd .nil pass0 (pa_cons (pv 0) pa_nil))
        (pa_cons (pe_and (pv 2) (pe_one (pe_cmpR op_in_seq (pv 0) (pe_tup (pa_cons pe_str (pa_cons pe_str pa_nil))) (by with_unfolding_all rfl)))) pa_nil)))))
      (pss_cons (ps_expr (pe_bm PySem.F.plainAttrs_list PySem.F.slot_list_append PySem.F.type_list_append mt_append (pv 4) (pa_cons (pe_and (pv 2) (pe_one (pe_cmpR op_in_seq (pv 0) (pe_tup (pa_cons pe_str (pa_cons pe_str (pa_cons pe_str (pa_cons pe_str (pa_cons pe_str (pa_cons pe_str pa_nil))))))) (by with_unfolding_all rfl)))) pa_nil)))
      (pss_cons (ps_expr (pe_bm PySem.F.plainAttrs_list PySem.F.slot_list_append PySem.F.type_list_append mt_append (pv 4) (pa_cons (pe_and (pv 2) (pe_one (pe_cmpR op_in_seq (pv 0) (pe_tup (pa_cons pe_str (pa_cons pe_str (pa_cons pe_str pa_nil)))) (by with_unfolding_all rfl)))) pa_nil)))
      (pss_cons p5 (pss_cons p6 (pss_cons p7
      (pss_cons (ps_set (i := 7) scR.nd rfl (Or.inl rfl) (pe_lst (pa_cons (pe_call C4.ok hr1 (by rfl) C4.mg C4.kp C4.bd .nil pass0 (pa_cons (pv 0) pa_nil)) (pa_cons (pe_call C5.ok hr1 (by rfl) C5.mg C5.kp C5.bd .nil pass0 (pa_cons (pv 0) pa_nil))
          (pa_cons (pe_call C6.ok hr (by rfl) C6.mg C6.kp C6.bd .nil pass0 (pa_cons (pv 0) pa_nil)) (pa_cons (pe_call C7.ok hr (by rfl) C7.mg C7.kp C7.bd .nil pass0 (pa_cons (pv 0) pa_nil)) (pa_cons (pe_call C8.ok hr (by rfl) C8.mg C8.kp C8.bd .nil pass0 (pa_cons (pv 0) pa_nil)) pa_nil)))))))
      (pss_one (ps_ret (pe_callG C3.ok hg hr (by rfl) C3.mg C3.kp C3.bd (pa_cons (pe_op op_cat (pv 7) (pe_lst (pa_cons (pe_call C9.ok hr (by rfl) C9.mg C9.kp C9.bd .nil pass0 (pa_cons (pv 0) (pa_cons (pv 1) pa_nil))) (pa_cons (pe_call C10.ok hr (by rfl) C10.mg C10.kp C10.bd .nil pass0 (pa_cons (pv 0) pa_nil)) pa_nil)))) (pa_cons (pv 4) pa_nil)))))))))))), ?_⟩
    have see0 : Sees K H v (some d) := .thing tn
    obtain ⟨t, ty, kt⟩ := see0.kit
    refine ⟨_, rfl, v, .ty "str", t, .type "str", isD "str" (some d), rfl, .ty _, ty, kt _ (by decide), _, rfl, (by show 2 ≤ sizeLine; decide), fun tp htp => ?_⟩
    have s1 : Same H (upd H tp (.tup [.ty "list", .ty "tuple"])) := upd_fresh (Same.refl H) htp
    obtain ⟨t', ty', kl⟩ := isList_kit (see0.keep s1)
    refine ⟨v, tp, [.ty "list", .ty "tuple"], t', [.type "list", .type "tuple"], dList (some d), rfl, upd_same, .cons (.ty _) (.cons (.ty _) .nil), ty', kl, _, _, rfl, ?_⟩
    generalize upd H tp (.tup [.ty "list", .ty "tuple"]) = H1 at s1
    refine ⟨_, rfl, v, some d, rfl, see0.keep s1, sm, fun H2 s2 => ⟨_, rfl, v, some d, rfl, see0.keep (s1.trans s2), sm, fun H3 s3 => ?_⟩⟩
    have s13 := s1.trans (s2.trans s3)
    refine and_in (ws := ["look", "put"]) rfl rfl (Tn.keep s13 d v tn) (by decide) fun H4 s4 => ?_
    have s14 := s13.trans s4
    refine ⟨(by show 3 ≤ sizeLine; decide), fun p hp => ?_⟩
    have np : H p = none := s14.free hp
    have s15 := upd_fresh (u := .lst [.bl (dInt (some d)), .bl (dName (some d)), .bl (dOne ["look", "put"] (some d))]) s14 np
    have l15 : upd H4 p (.lst [.bl (dInt (some d)), .bl (dName (some d)), .bl (dOne ["look", "put"] (some d))]) p = some (.lst [.bl (dInt (some d)), .bl (dName (some d)), .bl (dOne ["look", "put"] (some d))]) := upd_same
    generalize upd H4 p (.lst [.bl (dInt (some d)), .bl (dName (some d)), .bl (dOne ["look", "put"] (some d))]) = H5 at s15 l15
    refine ⟨_, rfl, .inl ⟨rfl, _, SqL.of l15⟩, and_in (ws := ["again", "answer", "end", "fail", "leave", "shut"]) rfl rfl (Tn.keep s15 d v tn) (by decide) fun H6 s6 => ⟨p, _, _, rfl, rfl, s6 _ _ l15, (by show 3 < sizeLine; decide), ?_⟩⟩
    have g7 := grow_of (xs := [.bl (dInt (some d)), .bl (dName (some d)), .bl (dOne ["look", "put"] (some d)), .bl (dOne ["again", "answer", "end", "fail", "leave", "shut"] (some d))]) s6 l15
    have s17 := g7.same s15 np
    have l17 := g7.1
    refine ⟨_, rfl, .inl ⟨rfl, _, SqL.of l17⟩, and_in (ws := ["none", "value", "state"]) rfl rfl (Tn.keep s17 d v tn) (by decide) fun H8 s8 => ⟨p, _, _, rfl, rfl, s8 _ _ l17, (by show 4 < sizeLine; decide), ?_⟩⟩
    have g9 := grow_of (xs := [.bl (dInt (some d)), .bl (dName (some d)), .bl (dOne ["look", "put"] (some d)), .bl (dOne ["again", "answer", "end", "fail", "leave", "shut"] (some d)), .bl (dOne ["none", "value", "state"] (some d))]) s8 l17
    have s19 := g9.same s17 np
    refine q5 _ v d most p [.bl (dInt (some d)), .bl (dName (some d)), .bl (dOne ["look", "put"] (some d)), .bl (dOne ["again", "answer", "end", "fail", "leave", "shut"] (some d)), .bl (dOne ["none", "value", "state"] (some d))] _ _ _ _ _ (Tn.keep s19 d v tn) sm g9.1 (by show 5 ≤ 10; decide) fun H10 g10 => ?_
    have s20 := g10.same s19 np
    refine q6 _ v d _ _ _ _ _ _ _ H10 (Tn.keep s20 d v tn) ?_
    refine q7 _ v d p [.bl (dInt (some d)), .bl (dName (some d)), .bl (dOne ["look", "put"] (some d)), .bl (dOne ["again", "answer", "end", "fail", "leave", "shut"] (some d)), .bl (dOne ["none", "value", "state"] (some d)), .bl (dNames most (some d))] _ _ _ _ _ H10 (Tn.keep s20 d v tn) sm g10.1 (by show 6 ≤ 10; decide) fun H11 g11 => ?_
    have s21 := g11.same s20 np
    refine ⟨_, rfl, v, some d, rfl, see0.keep s21, sm, fun H12 s12 => ⟨_, rfl, v, some d, rfl, see0.keep (s21.trans s12), sm, fun H13 s13 => ⟨_, rfl, v, some d, rfl, see0.keep (s21.trans (s12.trans s13)), sm, fun H14 s14 =>
      ⟨_, rfl, v, some d, rfl, see0.keep (s21.trans (s12.trans (s13.trans s14))), sm, fun H15 s15 => ⟨_, rfl, v, some d, rfl, see0.keep (s21.trans (s12.trans (s13.trans (s14.trans s15)))), sm, fun H16 s16 => ?_⟩⟩⟩⟩⟩
    have sA := s12.trans (s13.trans (s14.trans (s15.trans s16)))
    refine ⟨(by show 5 ≤ sizeLine; decide), fun q hq => ?_⟩
    have sB := upd_fresh (u := .lst [.bl (dInt (some d)), .bl (dName (some d)), .bl (dOne ["look", "put"] (some d)), .bl (dOne ["again", "answer", "end", "fail", "leave", "shut"] (some d)), .bl (dOne ["none", "value", "state"] (some d))]) sA (sA.free hq)
    have lB : upd H16 q (.lst [.bl (dInt (some d)), .bl (dName (some d)), .bl (dOne ["look", "put"] (some d)), .bl (dOne ["again", "answer", "end", "fail", "leave", "shut"] (some d)), .bl (dOne ["none", "value", "state"] (some d))]) q = some (.lst [.bl (dInt (some d)), .bl (dName (some d)), .bl (dOne ["look", "put"] (some d)), .bl (dOne ["again", "answer", "end", "fail", "leave", "shut"] (some d)), .bl (dOne ["none", "value", "state"] (some d))]) := upd_same
    generalize upd H16 q (.lst [.bl (dInt (some d)), .bl (dName (some d)), .bl (dOne ["look", "put"] (some d)), .bl (dOne ["again", "answer", "end", "fail", "leave", "shut"] (some d)), .bl (dOne ["none", "value", "state"] (some d))]) = HB at sB lB
    have sC := s21.trans sB
    refine ⟨_, rfl, _, rfl, _, rfl, v, some d, most, rfl, see0.keep sC, sm, fun H17 s17' => ⟨_, rfl, v, some d, rfl, see0.keep (sC.trans s17'), sm, fun H18 s18 => ?_⟩⟩
    refine ⟨(by show 2 ≤ sizeLine; decide), fun r hr2 => ?_⟩
    have sD := sB.trans (s17'.trans s18)
    have sE : Same H11 (upd H18 r (.lst [.bl (dNames most (some d)), .bl (dAddr (some d))])) := upd_fresh sD (sD.free hr2)
    have lq : upd H18 r (.lst [.bl (dNames most (some d)), .bl (dAddr (some d))]) q = some (.lst [.bl (dInt (some d)), .bl (dName (some d)), .bl (dOne ["look", "put"] (some d)), .bl (dOne ["again", "answer", "end", "fail", "leave", "shut"] (some d)), .bl (dOne ["none", "value", "state"] (some d))]) := upd_fresh (s17'.trans s18) ((s17'.trans s18).free hr2) _ _ lB
    refine ⟨q, r, _, _, rfl, rfl, lq, upd_same, (by show 5 + 2 ≤ sizeLine; decide), fun u hu => ?_⟩
    refine ⟨_, rfl, ?_⟩
    have sF : Same H11 (upd (upd H18 r (.lst [.bl (dNames most (some d)), .bl (dAddr (some d))])) u (.lst [.bl (dInt (some d)), .bl (dName (some d)), .bl (dOne ["look", "put"] (some d)), .bl (dOne ["again", "answer", "end", "fail", "leave", "shut"] (some d)), .bl (dOne ["none", "value", "state"] (some d)), .bl (dNames most (some d)), .bl (dAddr (some d))])) := upd_fresh sE (sE.free hu)
    refine alike_bools (E := E0) (bs := [dInt (some d), dName (some d), dOne ["look", "put"] (some d), dOne ["again", "answer", "end", "fail", "leave", "shut"] (some d), dOne ["none", "value", "state"] (some d), dNames most (some d), dAddr (some d)]) (by show 7 ≤ 100; decide) ((smo_same mo (s21.trans sE)).ne hu) (mo.ne np) upd_same (sF _ _ g11.1) (k _ (s21.trans sF))
end
abbrev sText : Stmt := top 68
/-! ### what is drawn: the bag alone is changed -/
def hide (p : Addr) (H : Hp) : Hp := fun b => if b = p then none else H b
theorem hide_ne {p b : Addr} {H : Hp} (h : b ≠ p) : hide p H b = H b := if_neg h
theorem hide_some {p b : Addr} {H : Hp} {o : HO} (h : hide p H b = some o) : b ≠ p ∧ H b = some o := by
  unfold hide at h
  by_cases c : b = p
  · rw [if_pos c] at h
    cases h
  · rw [if_neg c] at h
    exact ⟨c, h⟩
theorem hide_same {p : Addr} {H : Hp} : Same (hide p H) H := fun _ _ e => (hide_some e).2
structure Drw (p c : Addr) (H H' : Hp) : Prop where
  bag : Bag H' p c
  same : Same (hide p H) (hide p H')
theorem Drw.refl {p c : Addr} {H : Hp} (b : Bag H p c) : Drw p c H H := ⟨b, Same.refl _⟩
theorem Drw.trans {p c : Addr} {H H1 H2 : Hp} (a : Drw p c H H1) (b : Drw p c H1 H2) : Drw p c H H2 := ⟨b.bag, a.same.trans b.same⟩
theorem drw_take {p c : Addr} {H : Hp} {xs : List V} (b : Bag (upd H p (.lst xs)) p c) : Drw p c H (upd H p (.lst xs)) := ⟨b, fun a o e => by
  obtain ⟨h1, h2⟩ := hide_some e
  rw [hide_ne h1, upd_ne h1]
  exact h2⟩
theorem bag_at {H : Hp} {p c : Addr} (b : Bag H p c) : ∃ o, H p = some o := by
  obtain ⟨d, m, i, ns, h, _⟩ := b
  exact ⟨_, h⟩
theorem Drw.new {p c q : Addr} {H H1 : Hp} {u : HO} (a : Drw p c H H1) (n : H1 q = none) : Drw p c H (upd H1 q u) := by
  refine ⟨a.bag.keep (upd_fresh (Same.refl _) n), fun b o e => ?_⟩
  have e1 := a.same b o e
  obtain ⟨h1, h2⟩ := hide_some e1
  rw [hide_ne h1, upd_ne (ne_of_none h2 n)]
  exact h2
theorem Drw.get {p c b : Addr} {H H1 : Hp} {o : HO} (a : Drw p c H H1) (h : H b = some o) (n : b ≠ p) : H1 b = some o := (hide_some (a.same b o (by rw [hide_ne n]; exact h))).2
theorem bag_ne {H : Hp} {p c q : Addr} (b : Bag H p c) (n : H q = none) : q ≠ p := by
  obtain ⟨o, e⟩ := bag_at b
  exact (ne_of_none e n).symm
/-! ### texts -/
def okT (n : Nat) (x : Str) : Prop := x.length ≤ n ∧ ∀ c ∈ x.cps.toList, c < 128
theorem okT_cut {n : Nat} {x : Str} (h : okT n x) (lo hi : Option Int) : okT n (cutS x lo hi) := by
  constructor
  · refine Nat.le_trans ?_ h.1
    show ((x.cps.toList.drop _).take _).toArray.size ≤ x.cps.size
    rw [List.size_toArray, List.length_take, List.length_drop, Array.length_toList]
    omega
  · intro c hc
    refine h.2 c (List.mem_of_mem_drop (List.mem_of_mem_take (i := (HT.sIx x.length x.length hi - HT.sIx x.length 0 lo)) (l := x.cps.toList.drop (HT.sIx x.length 0 lo)) ?_))
    exact hc
theorem okT_cat {n m : Nat} {x y : Str} (h : okT n x) (k : okT m y) : okT (n + m) (x ++ y) := by
  constructor
  · rw [PySem.Str.length_append]
    exact Nat.add_le_add h.1 k.1
  · intro c hc
    rw [PySem.Str.cps_append] at hc
    have hc' : c ∈ x.cps ∨ c ∈ y.cps := by simpa using hc
    rcases hc' with z | z
    · exact h.2 c (by simpa using z)
    · exact k.2 c (by simpa using z)
def textsW : List Str := ["look", "put", "again", "answer", "end", "fail", "leave", "shut", "none", "value", "state", "told", "last"]
def signsW : List Str := ["A", " ", "1", "_", "z", "-", "{", "`"]
theorem textsW_ok : ∀ x ∈ textsW, okT 11 x := by
  have h : ∀ x ∈ textsW, x.length ≤ 11 ∧ ∀ c ∈ x.cps.toList, c < 128 := by decide +kernel
  exact h
theorem signsW_ok : ∀ x ∈ signsW, okT 1 x := by
  have h : ∀ x ∈ signsW, x.length ≤ 1 ∧ ∀ c ∈ x.cps.toList, c < 128 := by decide +kernel
  exact h
theorem item_at {ws : List Str} {v : Int} (h0 : 0 ≤ v) (h1 : v < ws.length) : ∃ x ∈ ws, atI (ws.map V.str) v = some (V.str x) := by
  obtain ⟨n, rfl⟩ := Int.eq_ofNat_of_zero_le h0
  have lt : n < ws.length := by omega
  refine ⟨ws[n], List.getElem_mem lt, ?_⟩
  refine atI_nat ?_
  rw [List.getElem?_map, List.getElem?_eq_getElem lt]
  rfl
section
variable {Pg : Program} {w : World} {K : PySem.W.Frag} {mg : Str → Option Value} {base : Heap}
abbrev NX : List Str := ["_law_bag_here", "_law_words", "_law_text_here", "_law_at", "_law_way"]
theorem scT : FnScope NX ["_law_bag_here"] (defScope sText) := ⟨rfl, rfl, rfl, by decide +kernel, rfl, by decide +kernel, by decide +kernel⟩
def spText : Sp := fun vs H Q _ => ∃ (p c : Addr), vs = [.ref p] ∧ Bag H p c ∧ ∀ (x : Str) (H' : Hp), okT 30 x → Drw p c H H' → Q (.str x) H'
theorem ok_text {f fT : Addr} {fd fdT : FuncData} (F : Fun K "_law_text" "_law_text" sText f fd) (zLen : mg "len" = none) (CT : Cal Pg w K mg base 1 "_law_take" ["_law_bag_here", "_law_many"] spTake fT fdT) : FnOk Pg w K mg base CX0 2 f fd ["_law_bag_here"] spText := by
  refine F.ok scT (fun vs H Q E h => ?_) (fun cdv A outer s H vs Q E hr h => ?_)
  · obtain ⟨p, c, rfl, _⟩ := h
    rfl
  · obtain ⟨p, c, rfl, bg, k⟩ := h
    obtain ⟨tb, pb, qb⟩ : ∃ t, PSs (cxOf CX0 Pg w K mg base NX "_law_text" (defScope sText) f cdv A outer s H E).nox ((defBody sText).drop 2) t ∧
        ∀ (x : Str) (x1 : Option V) (H2 : Hp), okT 11 x → Drw p c H H2 → t { nx := fun _ H' => Q .non H', rt := Q } [some (.ref p), x1, some (.str x), none, none] H2 := by
      refine ⟨_, pss_cons (ps_par (i := 3) (j := 4) (by rfl) scT.nd rfl rfl (by decide) rfl rfl (pa_cons (pe_call CT.ok hr (by rfl) CT.mg CT.kp CT.bd .nil pass0 (pa_cons (pv 0) (pa_cons (pe_op op_add (pe_callB call_len_str (by rfl) zLen PySem.boot_len (pa_cons (pv 2) pa_nil)) pe_int) pa_nil))) (pa_cons (pe_call CT.ok hr (by rfl) CT.mg CT.kp CT.bd .nil pass0 (pa_cons (pv 0) (pa_cons pe_int pa_nil))) pa_nil)) (by rfl))
      (pss_cons (ps_if (pt_cmpR op_eq (pv 4) pe_int (nomark _)) (pss_one (ps_ret (pe_op op_add_str (pe_op op_add_str (pe_slice sl_str (pv 2) po_none (po_some (pv 3)))
          (pe_ix ix_list (pe_lst (pa_cons pe_str (pa_cons pe_str (pa_cons pe_str (pa_cons pe_str (pa_cons pe_str (pa_cons pe_str (pa_cons pe_str (pa_cons pe_str pa_nil))))))))) (pe_call CT.ok hr (by rfl) CT.mg CT.kp CT.bd .nil pass0 (pa_cons (pv 0) (pa_cons pe_int pa_nil))) (fun _ _ => rfl))) (pe_slice sl_str (pv 2) (po_some (pv 3)) po_none)))) pss_nil)
      (pss_one (ps_ret (pe_ifExp (pt_cmpR op_eq (pv 4) pe_int (nomark _)) (pe_op op_add_str (pe_slice sl_str (pv 2) po_none (po_some (pv 3))) (pe_slice sl_str (pv 2) (po_some (pe_op op_add (pv 3) pe_int)) po_none)) (pv 2))))), ?_⟩
      intro x x1 H2 ox D2
      have xl : x.length ≤ 11 := ox.1
      have xz : x.length ≤ sizeLine := Nat.le_trans xl (by decide)
      have cl : ∀ lo hi, (cutS x lo hi).length ≤ 11 := fun lo hi => (okT_cut ox lo hi).1
      refine ⟨_, rfl, _, rfl, x, rfl, xz, _, _, rfl, rfl, p, c, _, rfl, D2.bag, by omega, by omega, fun v xs v0 v1 b3 => ?_⟩
      have D3 := D2.trans (drw_take b3)
      generalize upd H2 p (.lst xs) = H3 at D3 b3
      refine ⟨_, rfl, p, c, _, rfl, b3, by decide, by decide, fun u ys u0 u1 b4 => ?_⟩
      have D4 := D3.trans (drw_take b4)
      generalize upd H3 p (.lst ys) = H4 at D4 b4
      refine ⟨_, _, rfl, _, rfl, rfl, _, rfl, ?_⟩
      refine ite2 (fun _ => ?_) (fun _ => ?_)
      · refine ⟨_, rfl, _, rfl, _, rfl, x, rfl, xz, ?_⟩
        refine ⟨(by show 8 ≤ sizeLine; decide), fun r hr4 => ?_⟩
        have D5 := D4.new (u := .lst (signsW.map V.str)) hr4
        have nr : r ≠ p := bag_ne b4 hr4
        have l5 : upd H4 r (.lst (signsW.map V.str)) r = some (.lst (signsW.map V.str)) := upd_same
        have b5 := D5.bag
        have e5 : (upd H4 r (.lst (signsW.map V.str)) : Hp) = upd H4 r (.lst (signsW.map V.str)) := rfl
        refine ⟨_, rfl, p, c, _, rfl, b5, by decide, by decide, fun z zs z0 z1 b6 => ?_⟩
        have D6 := (Drw.refl b5).trans (drw_take b6)
        have D46 := D5.trans D6
        obtain ⟨sg, hsg, hat⟩ := item_at (ws := signsW) z0 z1
        refine ⟨r, _, _, _, rfl, rfl, SqL.of (D6.get l5 nr), hat, ?_⟩
        have os := signsW_ok sg hsg
        have o1 := okT_cat (okT_cut ox none (some v)) os
        refine ⟨_, _, rfl, rfl, Nat.le_trans (Nat.add_le_add (cl _ _) os.1) (by decide), ?_⟩
        refine ⟨_, rfl, _, rfl, _, rfl, x, rfl, xz, ?_⟩
        have o2 := okT_cat o1 (okT_cut ox (some v) none)
        refine ⟨_, _, rfl, rfl, Nat.le_trans (Nat.add_le_add o1.1 (cl _ _)) (by decide), ?_⟩
        exact k _ _ ⟨Nat.le_trans o2.1 (by decide), o2.2⟩ D46
      · refine ⟨_, rfl, rfl, _, rfl, ?_⟩
        refine ite2 (fun _ => ?_) (fun _ => ?_)
        · refine ⟨_, rfl, _, rfl, _, rfl, x, rfl, xz, ?_⟩
          refine ⟨_, rfl, _, rfl, _, _, rfl, rfl, _, rfl, x, rfl, xz, ?_⟩
          have o2 := okT_cat (okT_cut ox none (some v)) (okT_cut ox (some (v + 1)) none)
          refine ⟨_, _, rfl, rfl, Nat.le_trans (Nat.add_le_add (cl _ _) (cl _ _)) (by decide), ?_⟩
          exact k _ _ ⟨Nat.le_trans o2.1 (by decide), o2.2⟩ D4
        · exact ⟨_, rfl, k x H4 ⟨Nat.le_trans xl (by decide), ox.2⟩ D4⟩
    refine ⟨_, pss_cons (ps_set (i := 1) scT.nd rfl (Or.inl rfl) (pe_lst (pa_cons pe_str (pa_cons pe_str (pa_cons pe_str (pa_cons pe_str (pa_cons pe_str (pa_cons pe_str (pa_cons pe_str (pa_cons pe_str (pa_cons pe_str (pa_cons pe_str (pa_cons pe_str (pa_cons pe_str (pa_cons pe_str pa_nil)))))))))))))))
      (pss_cons (ps_set (i := 2) scT.nd rfl (Or.inl rfl) (pe_ifExp (pt_cmpR op_eq (pe_call CT.ok hr (by rfl) CT.mg CT.kp CT.bd .nil pass0 (pa_cons (pv 0) (pa_cons pe_int pa_nil))) pe_int (nomark _))
        (pe_ix ix_list (pv 1) (pe_call CT.ok hr (by rfl) CT.mg CT.kp CT.bd .nil pass0 (pa_cons (pv 0) (pa_cons pe_int pa_nil))) (fun _ _ => rfl))
        (pe_slice sl_str pe_str po_none (po_some (pe_call CT.ok hr (by rfl) CT.mg CT.kp CT.bd .nil pass0 (pa_cons (pv 0) (pa_cons pe_int pa_nil))))))) pb), ?_⟩
    refine ⟨(by show 13 ≤ sizeLine; decide), fun q hq => ?_⟩
    have nq : q ≠ p := bag_ne bg hq
    have D1 : Drw p c H (upd H q (.lst (textsW.map V.str))) := (Drw.refl bg).new hq
    have l1 : upd H q (.lst (textsW.map V.str)) q = some (.lst (textsW.map V.str)) := upd_same
    have b1 := D1.bag
    refine ⟨_, rfl, p, c, _, rfl, b1, by decide, by decide, fun u ys u0 u1 b2 => ?_⟩
    have D2 := (Drw.refl b1).trans (drw_take b2)
    have l2 := D2.get l1 nq
    have D02 := D1.trans D2
    have b2' := D2.bag
    refine ⟨rfl, _, rfl, ?_⟩
    refine ite2 (fun _ => ?_) (fun _ => ?_)
    · refine ⟨_, rfl, _, rfl, p, c, _, rfl, b2', by decide, by decide, fun z zs z0 z1 b3 => ?_⟩
      have D3 := (Drw.refl b2').trans (drw_take b3)
      obtain ⟨x, hx, hat⟩ := item_at (ws := textsW) z0 z1
      refine ⟨q, _, _, _, rfl, rfl, SqL.of (D3.get l2 nq), hat, ?_⟩
      exact qb x _ _ (textsW_ok x hx) (D02.trans D3)
    · refine ⟨_, rfl, p, c, _, rfl, b2', by decide, by decide, fun z zs z0 z1 b3 => ?_⟩
      have D3 := (Drw.refl b2').trans (drw_take b3)
      refine ⟨_, rfl, _, rfl, by decide, ?_⟩
      refine qb _ _ _ (okT_cut ?_ none (some z)) (D02.trans D3)
      have h : ("abcdefghij" : Str).length ≤ 11 ∧ ∀ c ∈ ("abcdefghij" : Str).cps.toList, c < 128 := by decide +kernel
      exact h
end
abbrev sThing : Stmt := top 69
/-! ### what is new since H0 -/
def news (H0 H : Hp) : Hp := fun b => match H0 b with
  | none => H b
  | some _ => none
theorem news_none {H0 H : Hp} {b : Addr} (h : H0 b = none) : news H0 H b = H b := by
  unfold news
  rw [h]
theorem news_some {H0 H : Hp} {b : Addr} {o : HO} (h : news H0 H b = some o) : H0 b = none ∧ H b = some o := by
  unfold news at h
  cases c : H0 b with
  | none =>
    rw [c] at h
    exact ⟨rfl, h⟩
  | some u =>
    rw [c] at h
    cases h
theorem news_same {H0 H1 H H' : Hp} (dom : ∀ b, H1 b = none → H0 b = none) (st : ∀ b o, H1 b = none → H b = some o → H' b = some o) : Same (news H1 H) (news H0 H') := fun b o e => by
  obtain ⟨h1, h2⟩ := news_some e
  rw [news_none (dom b h1)]
  exact st b o h1 h2
theorem news_all {H0 H : Hp} : Same (news H0 H) H := fun _ _ e => (news_some e).2
theorem Drw.some {p c b : Addr} {H H' : Hp} (a : Drw p c H H') (h : H' b = none) : H b = none := by
  cases e : H b with
  | none => rfl
  | some o =>
    by_cases n : b = p
    · obtain ⟨u, z⟩ := bag_at a.bag
      rw [n, z] at h
      cases h
    · rw [a.get e n] at h
      cases h
theorem Drw.smo {p c : Addr} {H H' : Hp} (a : Drw p c H H') (m : Smo H) : Smo H' := by
  obtain ⟨u, e⟩ := m
  cases z : H' sysModules with
  | some o => exact ⟨o, z⟩
  | none =>
    rw [a.some z] at e
    cases e
/-- a thing that was new stays, and is new since earlier -/
theorem tn_later {p c : Addr} {H0 H1 H2 H3 : Hp} {v : V} {d : PyData} (t : Tn (news H1 H2) v d) (hp : ∃ o, H1 p = some o) (a : Drw p c H2 H3) (dom : ∀ b, H1 b = none → H0 b = none) : Tn (news H0 H3) v d :=
  Tn.keep (news_same dom fun b o h1 h2 => a.get h2 fun n => by
    obtain ⟨u, e⟩ := hp
    rw [n, e] at h1
    cases h1) d v t
theorem tna_later {p c : Addr} {H0 H1 H2 H3 : Hp} {vs : List V} {ds : List PyData} (t : TnA (news H1 H2) vs ds) (hp : ∃ o, H1 p = some o) (a : Drw p c H2 H3) (dom : ∀ b, H1 b = none → H0 b = none) : TnA (news H0 H3) vs ds :=
  TnA.keep (news_same dom fun b o h1 h2 => a.get h2 fun n => by
    obtain ⟨u, e⟩ := hp
    rw [n, e] at h1
    cases h1) ds vs t
theorem news_upd {H0 H : Hp} {D : Addr} {u o : HO} (h : H0 D = some o) : news H0 (upd H D u) = news H0 H := by
  funext b
  unfold news
  cases c : H0 b with
  | none =>
    have n : b ≠ D := by
      intro e
      rw [e, h] at c
      cases c
    exact upd_ne n
  | some _ => rfl
theorem bag_upd {H : Hp} {p c D : Addr} {u : HO} (b : Bag H p c) (h1 : p ≠ D) (h2 : c ≠ D) : Bag (upd H D u) p c := by
  obtain ⟨d, m, i, ns, e1, e2, r⟩ := b
  exact ⟨d, m, i, ns, by rw [upd_ne h1]; exact e1, by rw [upd_ne h2]; exact e2, r⟩
theorem bag_cells {H : Hp} {p c D : Addr} (b : Bag H p c) (n : H D = none) : c ≠ D := by
  obtain ⟨d, m, i, ns, e1, e2, r⟩ := b
  exact ne_of_none e2 n
/-- a comprehension over a range whose turns draw new things -/
theorem lc_draw {p c D : Addr} {H1 : Hp} {m j a b : Nat} {te : TE} {vs : List Nat} {σ : St} {Qd : Hp → Prop} (bg : Bag H1 p c) (fresh : H1 D = none) (few : m ≤ 100)
    (wip : ∀ i : Nat, wipe ((wipe σ vs).set j (some (.int (0 + (i : Int))))) vs = wipe σ vs)
    (make : ∀ (i : Nat) (H' : Hp) (Z : VK), Drw p c H1 H' → (∀ v d H4, Drw p c H' H4 → Tn (news H' H4) v d → Fit a b d → Z v H4) → te ((wipe σ vs).set j (some (.int (0 + (i : Int))))) H' Z)
    (done : ∀ H' xs ds, Drw p c H1 H' → H' D = some (.lst xs) → TnA (news (upd H1 D (.lst [])) H') xs ds → ds.length = m → (∀ d ∈ ds, Fit a b d) → Qd H') :
    ∃ W : Nat → Nat → Hp → Prop, (∃ n, W 0 n (upd H1 D (.lst []))) ∧ ∀ i n H, W i n H →
      ((Itr 0 m).stop i H ∧ Qd H) ∨ ((Itr 0 m).go i H ∧ ∃ Nx : Hp → Prop, (∀ H', Nx H' → ∃ m', m' < n ∧ W (i + 1) m' H') ∧ ∀ x H', (Itr 0 m).yld i H x H' → gName j x (wipe σ vs) H' fun σ2 H2 => wipe σ2 vs = wipe σ vs ∧ tYes σ2 H2 fun b H3 =>
        if b = true then te σ2 H3 fun y H4 => ∃ acc, H4 D = some (.lst acc) ∧ acc.length < sizeLine ∧ Nx (upd H4 D (.lst (acc ++ [y]))) else Nx H3) := by
  have nD : D ≠ p := bag_ne bg fresh
  have hbD : (upd H1 D (.lst [])) D = some (.lst []) := upd_same
  have hbp : ∃ o, (upd H1 D (.lst [])) p = some o := by
    obtain ⟨o, e⟩ := bag_at bg
    exact ⟨o, by rw [upd_ne nD.symm]; exact e⟩
  refine lc_range (lo := 0) (n := m) (fun i H' => i ≤ m ∧ Drw p c H1 H' ∧ ∃ xs ds, H' D = some (.lst xs) ∧ TnA (news (upd H1 D (.lst [])) H') xs ds ∧ ds.length = i ∧ ∀ d ∈ ds, Fit a b d) ⟨Nat.zero_le _, (Drw.refl bg).new fresh, [], [], upd_same, .nil, rfl, fun d hd => nomatch hd⟩ ?_ ?_
  · rintro i H' hi ⟨_, dr, xs, ds, hD, tn, hl, hf⟩
    refine ⟨wip i, ?_⟩
    refine yes_ (make i H' _ dr fun v d H4 dr4 t4 f4 => ?_)
    have h4D := dr4.get hD nD
    refine ⟨xs, h4D, ?_, hi, ?_, xs ++ [v], ds ++ [d], upd_same, ?_, by rw [List.length_append, hl]; rfl, ?_⟩
    · rw [tn.length, hl]
      exact Nat.lt_of_lt_of_le hi (Nat.le_trans few (by decide))
    · refine ⟨?_, fun e o h => ?_⟩
      · exact bag_upd (dr.trans dr4).bag nD.symm (bag_cells bg fresh)
      · have h4 := (dr.trans dr4).same e o h
        obtain ⟨n1, n2⟩ := hide_some h4
        have nd : e ≠ D := fun z => by
          have := (hide_some h).2
          rw [z, fresh] at this
          cases this
        rw [hide_ne n1, upd_ne nd]
        exact n2
    · rw [news_upd hbD]
      refine TnA.snoc (tna_later tn hbp dr4 fun _ h => h) ?_
      refine Tn.keep (news_same (fun e h => ?_) fun e o h1 h2 => h2) d v t4
      by_cases z : e = D
      · rw [z, hD] at h
        cases h
      · rw [upd_ne z]
        exact dr.some h
    · intro e he
      rcases List.mem_append.mp he with z | z
      · exact hf e z
      · rw [List.mem_singleton.mp z]
        exact f4
  · rintro H' ⟨_, dr, xs, ds, hD, tn, hl, hf⟩
    exact done H' xs ds dr hD tn hl hf
abbrev NT : List Str := ["_law_bag_here", "_law_deep", "_law_way", "_law_k"]
theorem scTh : FnScope NT ["_law_bag_here", "_law_deep"] (defScope sThing) := ⟨rfl, rfl, rfl, by decide +kernel, rfl, by decide +kernel, by decide +kernel⟩
def szB : Nat → Nat
  | 0 => 400
  | n + 1 => 5 * (szB n + 2) + 3
theorem fit_dict : Fit 1 400 (.dict [(.str "a", .int 1)]) := ⟨by
  simp only [PyData.showable, PyData.showableKv]
  decide, by simp [PyData.depth, PyData.depthKv], rfl, by
  simp only [PyData.shown, PyData.shownKv]
  decide +kernel⟩
def spThing (n : Nat) : Sp := fun vs H Q _ => ∃ (p c : Addr), vs = [.ref p, .int n] ∧ Bag H p c ∧ Smo H ∧ ∀ (v : V) (d : PyData) (H' : Hp), Drw p c H H' → Tn (news H H') v d → Fit (n + 1) (szB n) d → Q v H'
theorem szB_ge : ∀ n, 400 ≤ szB n
  | 0 => Nat.le_refl _
  | n + 1 => by
    have := szB_ge n
    show 400 ≤ 5 * (szB n + 2) + 3
    omega
def numsD : List (V × PyData) := [(.non, .none), (.bl true, .bool true), (.bl false, .bool false), (.int 0, .int 0), (.int 1, .int 1), (.int 7, .int 7), (.int (-1), .int (-1)), (.int (10 ^ 50), .int (10 ^ 50)), (.int (2 ^ 64), .int (2 ^ 64))]
theorem numsD_ok : ∀ x ∈ numsD, (∀ H, Tn H x.1 x.2) ∧ Fit 0 80 x.2 := by
  intro x hx
  simp only [numsD, List.mem_cons, List.not_mem_nil, or_false] at hx
  rcases hx with rfl | rfl | rfl | rfl | rfl | rfl | rfl | rfl | rfl
  · exact ⟨fun _ => .non, fit_non⟩
  · exact ⟨fun _ => .bl _, fit_bl _⟩
  · exact ⟨fun _ => .bl _, fit_bl _⟩
  · exact ⟨fun _ => .int _, fit_int (by decide)⟩
  · exact ⟨fun _ => .int _, fit_int (by decide)⟩
  · exact ⟨fun _ => .int _, fit_int (by decide)⟩
  · exact ⟨fun _ => .int _, fit_int (by decide)⟩
  · exact ⟨fun _ => .int _, fit_int (by decide)⟩
  · exact ⟨fun _ => .int _, fit_int (by decide)⟩
section
variable {Pg : Program} {w : World} {K : PySem.W.Frag} {mg : Str → Option Value} {base : Heap}
theorem thing_step {f fT fX : Addr} {fd fdT fdX : FuncData} {lev n : Nat} {sp : Sp} (F : Fun K "_law_thing" "_law_thing" sThing f fd) (zR : mg "range" = none) (zT : mg "tuple" = none) (h2 : 2 ≤ lev)
    (CT : Cal Pg w K mg base 1 "_law_take" ["_law_bag_here", "_law_many"] spTake fT fdT) (CX : Cal Pg w K mg base 2 "_law_text" ["_law_bag_here"] spText fX fdX)
    (CP : Cal Pg w K mg base lev "_law_thing" ["_law_bag_here", "_law_deep"] sp f fd) (hs : ∀ m, n = m + 1 → sp = spThing m) : FnOk Pg w K mg base CX0 (lev + 1) f fd ["_law_bag_here", "_law_deep"] (spThing n) := by
  refine F.ok scTh (fun vs H Q E h => ?_) (fun cdv A outer s H vs Q E hr h => ?_)
  · obtain ⟨p, c, rfl, _⟩ := h
    rfl
  · obtain ⟨p, c, rfl, bg, mo, k⟩ := h
    have hr1 : Room 1 (A.deeper (envOfC "_law_thing" (defScope sThing) s.heap.objs.size f cdv)) := hr.mono (by omega)
    have hr2 : Room 2 (A.deeper (envOfC "_law_thing" (defScope sThing) s.heap.objs.size f cdv)) := hr.mono h2
    have w80 : szB n + 0 ≥ 400 := szB_ge n
    obtain ⟨t4, p4, q4⟩ : ∃ t, PSs (cxOf CX0 Pg w K mg base NT "_law_thing" (defScope sThing) f cdv A outer s H E).nox ((defBody sThing).drop 3) t ∧ ∀ (wy : Int) (x3 : Option V) (H1 : Hp), Drw p c H H1 → t { nx := fun _ H' => Q .non H', rt := Q } [some (.ref p), some (.int n), some (.int wy), x3] H1 := by
      refine ⟨_, pss_cons (ps_if (pt_cmpR op_lt (pv 2) pe_int (nomark _)) (pss_one (ps_ret (pe_ix ix_list (pe_lst (pa_cons pe_non (pa_cons pe_bl (pa_cons pe_bl (pa_cons pe_int (pa_cons pe_int (pa_cons pe_int (pa_cons (pe_un un_neg pe_int) (pa_cons (pe_op op_pow pe_int pe_int) (pa_cons (pe_op op_pow pe_int pe_int) pa_nil)))))))))) (pe_call CT.ok hr1 (by rfl) CT.mg CT.kp CT.bd .nil pass0 (pa_cons (pv 0) (pa_cons pe_int pa_nil))) (fun _ _ => rfl)))) pss_nil)
      (pss_one (ps_ret (pe_ifExp (PW.pt (pw_and (pt_cmpR op_eq (pv 2) pe_int (nomark _)) (pw_and1 (pt_cmpR op_eq (pe_call CT.ok hr1 (by rfl) CT.mg CT.kp CT.bd .nil pass0 (pa_cons (pv 0) (pa_cons pe_int pa_nil))) pe_int (nomark _)))))
          (pe_disp (pps_cons pe_str pe_int pps_nil) (by rfl) (by rfl) (fun z => by cases z) (by decide)) (pe_call CX.ok hr2 (by rfl) CX.mg CX.kp CX.bd .nil pass0 (pa_cons (pv 0) pa_nil))))), ?_⟩
      intro wy x3 H1 D1
      have texty : ∀ H2, Drw p c H H2 → tCall spText [] E0 (tCons (tVar 0) tNil) [some (.ref p), some (.int n), some (.int wy), x3] H2 Q := fun H2 D2 =>
        ⟨_, rfl, p, c, rfl, D2.bag, fun x H' ox dr => k (.str x) (.str x) H' (D2.trans dr) (.str x) ((fit_str (Nat.le_trans ox.1 (by decide)) (fun c hc => Nat.lt_trans (ox.2 c hc) (by decide))).mono (by omega) (by have := ox.1; omega))⟩
      refine ⟨_, rfl, _, _, rfl, rfl, _, rfl, ?_⟩
      refine ite2 (fun _ => ?_) (fun _ => ?_)
      · refine ⟨_, rfl, _, _, rfl, rfl, ⟨by decide, by decide, by decide⟩, _, _, rfl, rfl, ⟨by decide, by decide, by decide⟩, ?_⟩
        refine ⟨(by show 9 ≤ sizeLine; decide), fun r hr4 => ?_⟩
        have nr : r ≠ p := bag_ne D1.bag hr4
        have D5 : Drw p c H (upd H1 r (.lst (numsD.map (·.1)))) := D1.new hr4
        have l5 : upd H1 r (.lst (numsD.map (·.1))) r = some (.lst (numsD.map (·.1))) := upd_same
        have b5 := D5.bag
        refine ⟨_, rfl, p, c, _, rfl, b5, by decide, by decide, fun z zs z0 z1 b6 => ?_⟩
        have D6 := (Drw.refl b5).trans (drw_take b6)
        obtain ⟨i, rfl⟩ := Int.eq_ofNat_of_zero_le z0
        have lt : i < numsD.length := by
          show i < 9
          omega
        have ok := numsD_ok numsD[i] (List.getElem_mem lt)
        refine ⟨r, _, _, numsD[i].1, rfl, rfl, SqL.of (D6.get l5 nr), atI_nat ?_, ?_⟩
        · rw [List.getElem?_map, List.getElem?_eq_getElem lt]
          rfl
        · exact k _ numsD[i].2 _ (D5.trans D6) (ok.1 _) (ok.2.mono (by omega) (by omega))
      · refine ⟨_, rfl, rfl, _, rfl, ?_⟩
        refine ite2 (fun _ => ?_) (fun _ => ?_)
        · refine ⟨_, rfl, p, c, _, rfl, D1.bag, by decide, by decide, fun z zs z0 z1 b2 => ⟨rfl, _, rfl, ?_⟩⟩
          have D2 := D1.trans (drw_take b2)
          generalize upd H1 p (.lst zs) = H2 at D2 b2
          refine ite2 (fun _ => ?_) (fun _ => texty H2 D2)
          intro r hr4
          have nr : H r = none := D2.some hr4
          refine ⟨upd_same, [(Sum.inr "a", .int 1)], rfl, by decide, ?_⟩
          refine k (.ref r) (.dict [(.str "a", .int 1)]) _ ?_ (.dct (by rw [news_none nr]; exact upd_same)) (fit_dict.mono (by omega) (by omega))
          rw [upd_upd]
          exact D2.new hr4
        · exact ite2 (fun z => by cases z) (fun _ => texty H1 D1)
    obtain ⟨t3, p3, q3⟩ : ∃ t, PSs (cxOf CX0 Pg w K mg base NT "_law_thing" (defScope sThing) f cdv A outer s H E).nox ((defBody sThing).drop 2) t ∧ ∀ (wy : Int) (x3 : Option V) (H1 : Hp), Drw p c H H1 → t { nx := fun _ H' => Q .non H', rt := Q } [some (.ref p), some (.int n), some (.int wy), x3] H1 := by
      refine ⟨_, pss_cons (ps_if (PW.pt (pw_and (pt_cmpR op_eq (pv 2) pe_int (nomark _)) (pw_and1 (pt_cmpR op_gt (pv 1) pe_int (nomark _))))) (pss_one (ps_ret
          (pe_callTy call_tuple_of (by rfl) zT (by decide +kernel) (pa_cons (pe_lc (own := [("_law_k", 3)]) (g := gName 3) (tt := tYes) (by rfl) scTh.nd (pi_range1 (by rfl) zR (pa_cons (pe_call CT.ok hr1 (by rfl) CT.mg CT.kp CT.bd .nil pass0 (pa_cons (pv 0) (pa_cons pe_int pa_nil))) pa_nil)) (blkOk_by (own := [("_law_k", 3)]) (N := NT) (sc := defScope sThing) (by decide +kernel)) (fun _ _ _ _ _ => pg_name (i := 3) scTh.nd rfl (Or.inl rfl)) (fun _ _ _ _ _ => pts_nil)
            (fun _ _ _ _ _ => pe_call CP.ok hr (by rfl) CP.mg CP.kp CP.bd .nil pass0 (pa_cons (pv 0) (pa_cons (pe_op op_sub (pv 1) pe_int) pa_nil)))) pa_nil)))) pss_nil) p4, ?_⟩
      intro wy x3 H1 D1
      refine ⟨_, rfl, rfl, _, rfl, ?_⟩
      refine ite2 (fun _ => ?_) (fun _ => ?_)
      · refine ⟨_, rfl, _, _, rfl, rfl, _, rfl, ?_⟩
        refine ite2 (fun pos => ?_) (fun _ => q4 wy x3 H1 D1)
        have pos' : (0 : Int) < n := of_decide_eq_true pos
        refine ⟨_, rfl, p, c, _, rfl, D1.bag, by decide, by decide, fun z zs z0 z1 b2 => ?_⟩
        have D2 := D1.trans (drw_take b2)
        generalize upd H1 p (.lst zs) = H2 at D2 b2
        obtain ⟨m, rfl⟩ : ∃ m, n = m + 1 := ⟨n - 1, by omega⟩
        obtain rfl := hs m rfl
        refine ⟨z, rfl, by omega, by omega, fun D hD => lc_draw (p := p) (c := c) (a := m + 1) (b := szB m) b2 hD (by omega) (fun i => rfl) (fun i H' Z dr h => ?_) (fun H' xs ds dr hDx tn hl hf => ?_)⟩
        · refine ⟨_, rfl, _, rfl, _, _, rfl, rfl, p, c, ?_, dr.bag, (D2.trans dr).smo mo, fun v d H4 dr4 t4 f4 => h v d H4 dr4 t4 f4⟩
          show [V.ref p, V.int (((m + 1 : Nat) : Int) - 1)] = [V.ref p, V.int (m : Int)]
          rw [show ((m + 1 : Nat) : Int) - 1 = (m : Int) by omega]
        · have nH : H D = none := D2.some hD
          have dom : ∀ b, (upd H2 D (.lst [])) b = none → H b = none := fun b hb => by
            by_cases y : b = D
            · rw [y]
              exact nH
            · rw [upd_ne y] at hb
              exact D2.some hb
          have hlen : ds.length ≤ 5 := by omega
          have tn2 : TnA (news H H') xs ds := TnA.keep (news_same dom fun b o _ h2 => h2) ds xs tn
          have smo2 : D ≠ sysModules := (D2.smo mo).ne hD
          refine ⟨D, xs, rfl, .inl ⟨SqL.of hDx, fun l hl2 => ?_⟩⟩
          have nl : H l = none := (D2.trans dr).some hl2
          have s5 : Same (news H H') (news H (upd H' l (.tup xs))) := news_same (fun _ h => h) fun b o _ h2 => by
            rw [upd_ne (ne_of_none h2 hl2)]
            exact h2
          exact k (.ref l) (.tuple ds) _ ((D2.trans dr).new hl2) (.tup (by rw [news_none nl]; exact upd_same) (TnA.keep s5 ds xs tn2)) (fit_tuple (m := 5) hf hlen (by decide))
      · exact ite2 (fun z => by cases z) (fun _ => q4 wy x3 H1 D1)
    refine ⟨_, pss_cons (ps_set (i := 2) scTh.nd rfl (Or.inl rfl) (pe_call CT.ok hr1 (by rfl) CT.mg CT.kp CT.bd .nil pass0 (pa_cons (pv 0) (pa_cons pe_int pa_nil))))
      (pss_cons (ps_if (PW.pt (pw_and (pt_cmpR op_eq (pv 2) pe_int (nomark _)) (pw_and1 (pt_cmpR op_gt (pv 1) pe_int (nomark _))))) (pss_one (ps_ret
          (pe_lc (own := [("_law_k", 3)]) (g := gName 3) (tt := tYes) (by rfl) scTh.nd (pi_range1 (by rfl) zR (pa_cons (pe_call CT.ok hr1 (by rfl) CT.mg CT.kp CT.bd .nil pass0 (pa_cons (pv 0) (pa_cons pe_int pa_nil))) pa_nil)) (blkOk_by (own := [("_law_k", 3)]) (N := NT) (sc := defScope sThing) (by decide +kernel)) (fun _ _ _ _ _ => pg_name (i := 3) scTh.nd rfl (Or.inl rfl)) (fun _ _ _ _ _ => pts_nil)
            (fun _ _ _ _ _ => pe_call CP.ok hr (by rfl) CP.mg CP.kp CP.bd .nil pass0 (pa_cons (pv 0) (pa_cons (pe_op op_sub (pv 1) pe_int) pa_nil)))))) pss_nil) p3), ?_⟩
    refine ⟨_, rfl, p, c, _, rfl, bg, by decide, by decide, fun wy ws w0 w1 b1 => ?_⟩
    have D1 := (Drw.refl bg).trans (drw_take b1)
    generalize upd H p (.lst ws) = H1 at D1 b1
    refine ⟨_, rfl, rfl, _, rfl, ?_⟩
    refine ite2 (fun _ => ?_) (fun _ => ?_)
    · refine ⟨_, rfl, _, _, rfl, rfl, _, rfl, ?_⟩
      refine ite2 (fun pos => ?_) (fun _ => q3 wy _ H1 D1)
      have pos' : (0 : Int) < n := of_decide_eq_true pos
      refine ⟨_, rfl, p, c, _, rfl, D1.bag, by decide, by decide, fun z zs z0 z1 b2 => ?_⟩
      have D2 := D1.trans (drw_take b2)
      generalize upd H1 p (.lst zs) = H2 at D2 b2
      obtain ⟨m, rfl⟩ : ∃ m, n = m + 1 := ⟨n - 1, by omega⟩
      obtain rfl := hs m rfl
      refine ⟨z, rfl, by omega, by omega, fun D hD => lc_draw (p := p) (c := c) (a := m + 1) (b := szB m) b2 hD (by omega) (fun i => rfl) (fun i H' Z dr h => ?_) (fun H' xs ds dr hDx tn hl hf => ?_)⟩
      · refine ⟨_, rfl, _, rfl, _, _, rfl, rfl, p, c, ?_, dr.bag, (D2.trans dr).smo mo, fun v d H4 dr4 t4 f4 => h v d H4 dr4 t4 f4⟩
        show [V.ref p, V.int (((m + 1 : Nat) : Int) - 1)] = [V.ref p, V.int (m : Int)]
        rw [show ((m + 1 : Nat) : Int) - 1 = (m : Int) by omega]
      · have nH : H D = none := D2.some hD
        have dom : ∀ b, (upd H2 D (.lst [])) b = none → H b = none := fun b hb => by
          by_cases y : b = D
          · rw [y]
            exact nH
          · rw [upd_ne y] at hb
            exact D2.some hb
        have hlen : ds.length ≤ 5 := by omega
        have tn2 : TnA (news H H') xs ds := TnA.keep (news_same dom fun b o _ h2 => h2) ds xs tn
        have smo2 : D ≠ sysModules := (D2.smo mo).ne hD
        exact k (.ref D) (.list ds) H' (D2.trans dr) (.lst smo2 (by rw [news_none nH]; exact hDx) tn2) (fit_list (m := 5) hf hlen (by decide))
    · exact ite2 (fun z => by cases z) (fun _ => q3 wy _ H1 D1)
theorem ok_thing {f fT fX : Addr} {fd fdT fdX : FuncData} (F : Fun K "_law_thing" "_law_thing" sThing f fd) (gF : mg "_law_thing" = some (.ref f)) (kF : PySem.W.keepIn K (.ref f) = true) (bF : Binds K fd ["_law_bag_here", "_law_deep"] []) (zR : mg "range" = none) (zT : mg "tuple" = none)
    (CT : Cal Pg w K mg base 1 "_law_take" ["_law_bag_here", "_law_many"] spTake fT fdT) (CX : Cal Pg w K mg base 2 "_law_text" ["_law_bag_here"] spText fX fdX) : ∀ n : Nat, FnOk Pg w K mg base CX0 (3 + n) f fd ["_law_bag_here", "_law_deep"] (spThing n)
  | 0 => thing_step (lev := 2) (sp := fun _ _ _ _ => False) F zR zT (by decide) CT CX ⟨⟨fun _ _ _ _ z => z.elim, fun _ _ _ _ _ _ _ _ _ _ _ _ _ z => z.elim⟩, gF, kF, bF⟩ (fun m z => by cases z)
  | n + 1 => thing_step (lev := 3 + n) F zR zT (by omega) CT CX ⟨ok_thing F gF kF bF zR zT CT CX n, gF, kF, bF⟩ (fun m z => by rw [Nat.succ.inj z])
end
abbrev sAddr : Stmt := top 70
abbrev NA : List Str := ["_law_bag_here", "_law_found", "_law_k", "_law_at", "_law_odd"]
theorem scDr : FnScope NA ["_law_bag_here"] (defScope sAddr) := ⟨rfl, rfl, rfl, by decide +kernel, rfl, by decide +kernel, by decide +kernel⟩
theorem TnA.drop {H : Hp} : ∀ (n : Nat) {vs : List V} {ds : List PyData}, TnA H vs ds → TnA H (vs.drop n) (ds.drop n)
  | 0, _, _, t => t
  | n + 1, _, _, .nil => .nil
  | n + 1, _, _, .cons _ t => TnA.drop n t
theorem TnA.take {H : Hp} : ∀ (n : Nat) {vs : List V} {ds : List PyData}, TnA H vs ds → TnA H (vs.take n) (ds.take n)
  | 0, _, _, _ => .nil
  | n + 1, _, _, .nil => .nil
  | n + 1, _, _, .cons a t => .cons a (TnA.take n t)
theorem TnA.app {H : Hp} {ws : List V} {es : List PyData} (k : TnA H ws es) : ∀ {vs : List V} {ds : List PyData}, TnA H vs ds → TnA H (vs ++ ws) (ds ++ es)
  | _, _, .nil => k
  | _, _, .cons a t => .cons a (TnA.app k t)
/-- a tuple of things of at most so many, new since H0 -/
def NewT (H0 H : Hp) (n : Nat) (q : Addr) : Prop := ∃ (xs : List V) (ds : List PyData), H0 q = none ∧ H q = some (.tup xs) ∧ TnA (news H0 H) xs ds ∧ ds.length ≤ n ∧ ∀ d ∈ ds, Fit 1 100 d
theorem NewT.later {p c q : Addr} {H0 H H' : Hp} {n : Nat} (t : NewT H0 H n q) (dr : Drw p c H H') (hp : ∃ o, H0 p = some o) : NewT H0 H' n q := by
  obtain ⟨xs, ds, h1, h2, h3, h4⟩ := t
  refine ⟨xs, ds, h1, dr.get h2 (fun z => ?_), tna_later h3 hp dr fun _ h => h, h4⟩
  obtain ⟨o, e⟩ := hp
  rw [z, e] at h1
  cases h1
theorem cut_whole {xs : List V} {lo hi : Option Int} (h : HT.sIx xs.length 0 lo = 0 ∧ HT.sIx xs.length xs.length hi = xs.length) : cutV xs lo hi = xs := by
  unfold cutV
  rw [h.1, h.2, List.drop_zero, Nat.sub_zero, List.take_length]
theorem slice_new {p c q : Addr} {K : PySem.W.Frag} {H0 H : Hp} {n : Nat} {lo hi : Option Int} {Z : VK} (t : NewT H0 H n q) (dr : Drw p c H0 H) (hp : ∃ o, H0 p = some o) (k : ∀ u H', Drw p c H H' → NewT H0 H' n u → Z (.ref u) H') : rSlA K (.ref q) lo hi H Z := by
  obtain ⟨xs, ds, h1, h2, h3, h4, h5⟩ := t
  refine ⟨q, xs, rfl, SqT.of h2, fun _ => k q H (Drw.refl dr.bag) ⟨xs, ds, h1, h2, h3, h4, h5⟩, fun _ u hu => ?_⟩
  have D := (Drw.refl dr.bag).new (u := .tup (cutV xs lo hi)) hu
  refine k u _ D ⟨cutV xs lo hi, (ds.drop (HT.sIx xs.length 0 lo)).take (HT.sIx xs.length xs.length hi - HT.sIx xs.length 0 lo), dr.some hu, upd_same, TnA.take _ (TnA.drop _ (tna_later h3 hp D fun _ h => h)), ?_, fun d hd => h5 d (List.mem_of_mem_drop (List.mem_of_mem_take hd))⟩
  rw [List.length_take, List.length_drop]
  omega
theorem cat_new {p c q r : Addr} {K : PySem.W.Frag} {H0 H : Hp} {n m : Nat} {Z : VK} (t : NewT H0 H n q) (t2 : NewT H0 H m r) (few : n + m ≤ 100) (dr : Drw p c H0 H) (hp : ∃ o, H0 p = some o) (k : ∀ u H', Drw p c H H' → NewT H0 H' (n + m) u → Z (.ref u) H') : rCatA K (.ref q) (.ref r) H Z := by
  have more : ∀ {a b : Nat} {u : Addr}, a ≤ b → NewT H0 H a u → NewT H0 H b u := fun h t => by
    obtain ⟨xs, ds, h1, h2, h3, h4, h5⟩ := t
    exact ⟨xs, ds, h1, h2, h3, Nat.le_trans h4 h, h5⟩
  have t' := more (Nat.le_add_right n m) t
  have t2' := more (Nat.le_add_left m n) t2
  obtain ⟨xs, ds, h1, h2, h3, h4, h5⟩ := t
  obtain ⟨ys, es, g1, g2, g3, g4, g5⟩ := t2
  refine ⟨q, r, xs, ys, rfl, rfl, SqT.of h2, SqT.of g2, ?_, fun _ => k r H (Drw.refl dr.bag) t2', fun _ _ => k q H (Drw.refl dr.bag) t', fun _ _ u hu => ?_⟩
  · rw [h3.length, g3.length]
    exact Nat.le_trans (Nat.add_le_add h4 g4) (Nat.le_trans few (by decide))
  · have D := (Drw.refl dr.bag).new (u := .tup (xs ++ ys)) hu
    refine k u _ D ⟨xs ++ ys, ds ++ es, dr.some hu, upd_same, TnA.app (tna_later g3 hp D fun _ h => h) (tna_later h3 hp D fun _ h => h), ?_, fun d hd => ?_⟩
    · rw [List.length_append]
      exact Nat.add_le_add h4 g4
    · rcases List.mem_append.mp hd with z | z
      · exact h5 d z
      · exact g5 d z
theorem NewT.fit {H0 H : Hp} {q : Addr} {n : Nat} (t : NewT H0 H n q) (few : n ≤ 20) : ∃ d, Tn (news H0 H) (.ref q) d ∧ Fit 2 3000 d := by
  obtain ⟨xs, ds, h1, h2, h3, h4, h5⟩ := t
  exact ⟨.tuple ds, .tup (by rw [news_none h1]; exact h2) h3, (fit_tuple (m := 20) h5 (Nat.le_trans h4 few) (by decide)).mono (by omega) (by decide)⟩
section
variable {Pg : Program} {w : World} {K : PySem.W.Frag} {mg : Str → Option Value} {base : Heap}
def spAddr : Sp := fun vs H Q _ => ∃ (p c : Addr), vs = [.ref p] ∧ Bag H p c ∧ Smo H ∧ ∀ (v : V) (d : PyData) (H' : Hp), Drw p c H H' → Tn (news H H') v d → Fit 2 3000 d → Q v H'
theorem ok_addr {f fT : Addr} {fd fdT : FuncData} (F : Fun K "_law_address" "_law_address" sAddr f fd) (zR : mg "range" = none) (zT : mg "tuple" = none) (zL : mg "list" = none) (zLen : mg "len" = none)
    (CT : Cal Pg w K mg base 1 "_law_take" ["_law_bag_here", "_law_many"] spTake fT fdT) : FnOk Pg w K mg base CX0 2 f fd ["_law_bag_here"] spAddr := by
  refine F.ok scDr (fun vs H Q E h => ?_) (fun cdv A outer s H vs Q E hr h => ?_)
  · obtain ⟨p, c, rfl, _⟩ := h
    rfl
  · obtain ⟨p, c, rfl, bg, mo, k⟩ := h
    have hp := bag_at bg
    refine ⟨_, pss_cons (ps_set (i := 1) scDr.nd rfl (Or.inl rfl) (pe_callTy call_tuple_of (by rfl) zT (by decide +kernel) (pa_cons (pe_lc (own := [("_law_k", 2)]) (g := gName 2) (tt := tYes) (by rfl) scDr.nd (pi_range1 (by rfl) zR (pa_cons (pe_call CT.ok hr (by rfl) CT.mg CT.kp CT.bd .nil pass0 (pa_cons (pv 0) (pa_cons pe_int pa_nil))) pa_nil)) (blkOk_by (own := [("_law_k", 2)]) (N := NA) (sc := defScope sAddr) (by decide +kernel)) (fun _ _ _ _ _ => pg_name (i := 2) scDr.nd rfl (Or.inl rfl)) (fun _ _ _ _ _ => pts_nil)
            (fun _ _ _ _ _ => pe_call CT.ok hr (by rfl) CT.mg CT.kp CT.bd .nil pass0 (pa_cons (pv 0) (pa_cons pe_int pa_nil)))) pa_nil)))
      (pss_cons (ps_set (i := 3) scDr.nd rfl (Or.inl rfl) (pe_call CT.ok hr (by rfl) CT.mg CT.kp CT.bd .nil pass0 (pa_cons (pv 0) (pa_cons (pe_op op_add (pe_callB call_len_seq (by rfl) zLen PySem.boot_len (pa_cons (pv 1) pa_nil)) pe_int) pa_nil))))
      (pss_cons (ps_set (i := 4) scDr.nd rfl (Or.inl rfl) (pe_ix ix_list (pe_lst (pa_cons pe_bl (pa_cons (pe_un un_neg pe_int) (pa_cons pe_non (pa_cons pe_str (pa_cons (pe_op op_pow pe_int pe_int) (pa_cons (pe_tup (pa_cons pe_int pa_nil)) (pa_cons (pe_lst (pa_cons pe_int pa_nil)) pa_nil)))))))) (pe_call CT.ok hr (by rfl) CT.mg CT.kp CT.bd .nil pass0 (pa_cons (pv 0) (pa_cons pe_int pa_nil))) (fun _ _ => rfl)))
      (pss_one (ps_ret (pe_ix ix_list (pe_lst (pa_cons (pv 1) (pa_cons (pv 1) (pa_cons (pe_callTy call_list_of (by rfl) zL (by decide +kernel) (pa_cons (pv 1) pa_nil))
          (pa_cons (pe_op op_catA (pe_op op_catA (pe_slice sl_tupA (pv 1) po_none (po_some (pv 3))) (pe_tup (pa_cons (pv 4) pa_nil))) (pe_slice sl_tupA (pv 1) (po_some (pe_op op_add (pv 3) pe_int)) po_none)) pa_nil))))) (pe_call CT.ok hr (by rfl) CT.mg CT.kp CT.bd .nil pass0 (pa_cons (pv 0) (pa_cons pe_int pa_nil))) (fun _ _ => rfl)))))), ?_⟩
    refine ⟨_, rfl, p, c, _, rfl, bg, by decide, by decide, fun z zs z0 z1 b2 => ?_⟩
    have D2 := (Drw.refl bg).trans (drw_take b2)
    generalize upd H p (.lst zs) = H2 at D2 b2
    refine ⟨z, rfl, by omega, by omega, fun D hD => lc_draw (p := p) (c := c) (a := 0) (b := 80) b2 hD (by omega) (fun i => rfl) (fun i H' Z dr h => ?_) (fun H' xs ds dr hDx tn hl hf => ?_)⟩
    · refine ⟨_, rfl, p, c, _, rfl, dr.bag, by decide, by decide, fun v ys v0 v1 b3 => ?_⟩
      exact h (.int v) (.int v) _ ((Drw.refl dr.bag).trans (drw_take b3)) (.int v) (fit_int (by omega))
    · refine ⟨D, xs, rfl, .inl ⟨SqL.of hDx, fun q hq => ?_⟩⟩
      have D3 := (D2.trans dr).new (u := .tup xs) hq
      have nq : H q = none := (D2.trans dr).some hq
      have dom : ∀ b, (upd H2 D (.lst [])) b = none → H b = none := fun b hb => by
        by_cases y : b = D
        · rw [y]
          exact D2.some hD
        · rw [upd_ne y] at hb
          exact D2.some hb
      have lq : upd H' q (.tup xs) q = some (.tup xs) := upd_same
      have T3 : NewT H (upd H' q (.tup xs)) 5 q := ⟨xs, ds, nq, upd_same, TnA.keep (news_same dom fun b o _ h2 => by
        rw [upd_ne (ne_of_none h2 hq)]
        exact h2) ds xs tn, by omega, fun d hd => (hf d hd).mono (by omega) (by omega)⟩
      generalize upd H' q (.tup xs) = H3 at D3 T3 lq
      have xl : xs.length ≤ 5 := by rw [tn.length]; omega
      refine ⟨_, rfl, _, rfl, q, xs, rfl, .inr (SqT.of lq), _, _, rfl, rfl, p, c, _, rfl, D3.bag, by omega, by omega, fun av ys a0 a1 b4 => ?_⟩
      have D34 := (Drw.refl D3.bag).trans (drw_take b4)
      have D4 := D3.trans D34
      have T4 := T3.later D34 hp
      generalize upd H3 p (.lst ys) = H4 at D4 T4 b4
      refine ⟨_, rfl, _, _, rfl, rfl, ⟨by decide, by decide, by decide⟩, ?_⟩
      refine ⟨(by show 1 ≤ sizeLine; decide), fun t1 ht1 => ⟨(by show 1 ≤ sizeLine; decide), fun l1 hl1 => ⟨(by show 7 ≤ sizeLine; decide), fun r hr7 => ?_⟩⟩⟩
      have D5 := D4.new (u := .tup [.int 0]) ht1
      have D6 := D5.new (u := .lst [.int 0]) hl1
      have D7 := D6.new (u := .lst [.bl true, (fun i : Int => V.int (-i)) 1, .non, .str "0", (fun i j : Int => V.int (i ^ j.toNat)) 10 40, .ref t1, .ref l1]) hr7
      have nt : H t1 = none := D4.some ht1
      have nl : H l1 = none := D5.some hl1
      have nr : r ≠ p := bag_ne D6.bag hr7
      have st : l1 ≠ sysModules := (D5.smo mo).ne hl1
      have D47 : Drw p c H4 _ := (((Drw.refl D4.bag).new (u := .tup [.int 0]) ht1).new (u := .lst [.int 0]) hl1).new (u := .lst [.bl true, (fun i : Int => V.int (-i)) 1, .non, .str "0", (fun i j : Int => V.int (i ^ j.toNat)) 10 40, .ref t1, .ref l1]) hr7
      have T7 := T4.later D47 hp
      have lt : upd (upd (upd H4 t1 (.tup [.int 0])) l1 (.lst [.int 0])) r (.lst [.bl true, (fun i : Int => V.int (-i)) 1, .non, .str "0", (fun i j : Int => V.int (i ^ j.toNat)) 10 40, .ref t1, .ref l1]) t1 = some (.tup [.int 0]) := by
        have e1 : (upd H4 t1 (.tup [.int 0])) t1 = some (.tup [.int 0]) := upd_same
        have n1 := ne_of_none e1 hl1
        have e2 : (upd (upd H4 t1 (.tup [.int 0])) l1 (.lst [.int 0])) t1 = some (.tup [.int 0]) := by rw [upd_ne n1]; exact e1
        rw [upd_ne (ne_of_none e2 hr7)]
        exact e2
      have ll : upd (upd (upd H4 t1 (.tup [.int 0])) l1 (.lst [.int 0])) r (.lst [.bl true, (fun i : Int => V.int (-i)) 1, .non, .str "0", (fun i j : Int => V.int (i ^ j.toNat)) 10 40, .ref t1, .ref l1]) l1 = some (.lst [.int 0]) := by
        have e2 : (upd (upd H4 t1 (.tup [.int 0])) l1 (.lst [.int 0])) l1 = some (.lst [.int 0]) := upd_same
        rw [upd_ne (ne_of_none e2 hr7)]
        exact e2
      have lr : upd (upd (upd H4 t1 (.tup [.int 0])) l1 (.lst [.int 0])) r (.lst [.bl true, (fun i : Int => V.int (-i)) 1, .non, .str "0", (fun i j : Int => V.int (i ^ j.toNat)) 10 40, .ref t1, .ref l1]) r = some (.lst [.bl true, (fun i : Int => V.int (-i)) 1, .non, .str "0", (fun i j : Int => V.int (i ^ j.toNat)) 10 40, .ref t1, .ref l1]) := upd_same
      generalize upd (upd (upd H4 t1 (.tup [.int 0])) l1 (.lst [.int 0])) r (.lst [.bl true, (fun i : Int => V.int (-i)) 1, .non, .str "0", (fun i j : Int => V.int (i ^ j.toNat)) 10 40, .ref t1, .ref l1]) = H7 at D7 T7 lt ll lr D47
      refine ⟨_, rfl, p, c, _, rfl, D7.bag, by decide, by decide, fun o os o0 o1 b8 => ?_⟩
      have D78 := (Drw.refl D7.bag).trans (drw_take b8)
      have D8 := D7.trans D78
      have T8 := T7.later D78 hp
      have lt8 := D78.get lt (fun z => by rw [z] at nt; obtain ⟨u, e⟩ := hp; rw [e] at nt; cases nt)
      have ll8 := D78.get ll (fun z => by rw [z] at nl; obtain ⟨u, e⟩ := hp; rw [e] at nl; cases nl)
      have lr8 := D78.get lr nr
      generalize upd H7 p (.lst os) = H8 at D8 T8 lt8 ll8 lr8 b8
      obtain ⟨ov, od, hat, ot, ofit⟩ : ∃ ov od, atI [V.bl true, (fun i : Int => V.int (-i)) 1, .non, .str "0", (fun i j : Int => V.int (i ^ j.toNat)) 10 40, .ref t1, .ref l1] o = some ov ∧ Tn (news H H8) ov od ∧ Fit 1 100 od := by
        have fz : ∀ d ∈ [PyData.int 0], Fit 0 80 d := fun d hd => by
          rw [List.mem_singleton.mp hd]
          exact fit_int (by decide)
        have cs : o = 0 ∨ o = 1 ∨ o = 2 ∨ o = 3 ∨ o = 4 ∨ o = 5 ∨ o = 6 := by omega
        rcases cs with rfl | rfl | rfl | rfl | rfl | rfl | rfl
        · exact ⟨_, _, rfl, .bl true, (fit_bl true).mono (by omega) (by omega)⟩
        · exact ⟨_, _, rfl, .int (-1), (fit_int (by decide)).mono (by omega) (by omega)⟩
        · exact ⟨_, _, rfl, .non, fit_non.mono (by omega) (by omega)⟩
        · exact ⟨_, _, rfl, .str "0", (fit_str (by decide) (by decide)).mono (by omega) (by decide)⟩
        · exact ⟨_, _, rfl, .int _, (fit_int (by decide)).mono (by omega) (by omega)⟩
        · exact ⟨_, _, rfl, .tup (by rw [news_none nt]; exact lt8) (.cons (.int 0) .nil), (fit_tuple (m := 1) fz (by decide) (by decide)).mono (by omega) (by decide)⟩
        · exact ⟨_, _, rfl, .lst st (by rw [news_none nl]; exact ll8) (.cons (.int 0) .nil), (fit_list (m := 1) fz (by decide) (by decide)).mono (by omega) (by decide)⟩
      refine ⟨r, _, _, ov, rfl, rfl, SqL.of lr8, hat, ?_⟩
      obtain ⟨xs8, ds8, _, lq8, _⟩ := id T8
      refine ⟨_, rfl, _, rfl, _, rfl, q, xs8, rfl, .inr (SqT.of lq8), fun l2 hl2 => ?_⟩
      have nl2 : H l2 = none := D8.some hl2
      have sl2 : l2 ≠ sysModules := (D8.smo mo).ne hl2
      have D89 := (Drw.refl D8.bag).new (u := .lst xs8) hl2
      have D9 := D8.trans D89
      have T9 := T8.later D89 hp
      have L9 : upd H8 l2 (.lst xs8) l2 = some (.lst xs8) := upd_same
      have ot9 := tn_later ot hp D89 (fun _ h => h)
      obtain ⟨xs8', ds8', n8, e8, tn8, few8, fit8⟩ := T8
      have ex : xs8 = xs8' := by
        rw [lq8] at e8
        cases e8
        rfl
      subst ex
      have tnL := tna_later tn8 hp D89 (fun _ h => h)
      generalize upd H8 l2 (.lst xs8) = H9 at D89 D9 T9 L9 ot9 tnL
      refine ⟨_, rfl, _, rfl, _, rfl, slice_new T9 D9 hp fun u1 H10 D910 T10 => ?_⟩
      have D10 := D9.trans D910
      refine ⟨_, rfl, (by show 1 ≤ sizeLine; decide), fun t2 ht2 => ?_⟩
      have D1011 := (Drw.refl D10.bag).new (u := .tup [ov]) ht2
      have D11 := D10.trans D1011
      have T11 := T10.later D1011 hp
      have U11 : NewT H (upd H10 t2 (.tup [ov])) 1 t2 := ⟨[ov], [od], D10.some ht2, upd_same, .cons (tn_later (tn_later ot9 hp D910 fun _ h => h) hp D1011 fun _ h => h) .nil, (by show 1 ≤ 1; decide), fun d hd => by
        rw [List.mem_singleton.mp hd]
        exact ofit⟩
      refine cat_new T11 U11 (by decide) D11 hp fun u2 H12 D1112 T12 => ?_
      have D12 := D11.trans D1112
      have T12' := ((T9.later D910 hp).later D1011 hp).later D1112 hp
      refine ⟨_, rfl, _, rfl, _, _, rfl, rfl, _, rfl, ?_⟩
      unfold tNoPart
      show rSlA K (.ref q) (some (av + 1)) none H12 _
      refine slice_new T12' D12 hp fun u3 H13 D1213 T13 => ?_
      have D13 := D12.trans D1213
      refine cat_new (T12.later D1213 hp) T13 (by decide) D13 hp fun u4 H14 D1314 T14 => ?_
      have D14 := D13.trans D1314
      refine ⟨(by show 4 ≤ sizeLine; decide), fun r2 hr2 => ?_⟩
      have nr2 : r2 ≠ p := bag_ne D14.bag hr2
      have D1415 := (Drw.refl D14.bag).new (u := .lst [.ref q, .ref q, .ref l2, .ref u4]) hr2
      have D15 := D14.trans D1415
      have lr2 : upd H14 r2 (.lst [.ref q, .ref q, .ref l2, .ref u4]) r2 = some (.lst [.ref q, .ref q, .ref l2, .ref u4]) := upd_same
      refine ⟨_, rfl, p, c, _, rfl, D15.bag, by decide, by decide, fun y yss y0 y1 b16 => ?_⟩
      have D1516 := (Drw.refl D15.bag).trans (drw_take b16)
      have D16 := D15.trans D1516
      have D916 := D910.trans (D1011.trans (D1112.trans (D1213.trans (D1314.trans (D1415.trans D1516)))))
      obtain ⟨fv, fd2, hat2, ft, ffit⟩ : ∃ fv fd2, atI [V.ref q, .ref q, .ref l2, .ref u4] y = some fv ∧ Tn (news H (upd (upd H14 r2 (.lst [.ref q, .ref q, .ref l2, .ref u4])) p (.lst yss))) fv fd2 ∧ Fit 2 3000 fd2 := by
        have cs : y = 0 ∨ y = 1 ∨ y = 2 ∨ y = 3 := by omega
        rcases cs with rfl | rfl | rfl | rfl
        · obtain ⟨d, h1, h2⟩ := (T9.later D916 hp).fit (by decide)
          exact ⟨_, d, rfl, h1, h2⟩
        · obtain ⟨d, h1, h2⟩ := (T9.later D916 hp).fit (by decide)
          exact ⟨_, d, rfl, h1, h2⟩
        · refine ⟨_, .list ds8', rfl, tn_later (H1 := H) (H2 := H9) (.lst sl2 (by rw [news_none nl2]; exact L9) tnL) hp D916 (fun _ h => h), (fit_list (m := 5) fit8 few8 (by decide)).mono (by omega) (by decide)⟩
        · obtain ⟨d, h1, h2⟩ := ((T14.later D1415 hp).later D1516 hp).fit (by decide)
          exact ⟨_, d, rfl, h1, h2⟩
      refine ⟨r2, _, _, fv, rfl, rfl, SqL.of (D1516.get lr2 nr2), hat2, ?_⟩
      exact k fv fd2 _ D16 ft ffit
end
abbrev sNames : Stmt := top 66
abbrev NN : List Str := ["_law_bag_here", "_law_many", "_law_words", "_law_way", "_law_turn", "_law_letters", "_law_k"]
theorem scNm : FnScope NN ["_law_bag_here", "_law_many"] (defScope sNames) := ⟨rfl, rfl, rfl, by decide +kernel, rfl, by decide +kernel, by decide +kernel⟩
def namesW : List Str := ["a", "aa", "ab", "b", "do", "fail", "last", "put", "x", "y", "z", "zzzzzzzz"]
theorem namesW_ok : ∀ x ∈ namesW, okT 9 x := by
  have h : ∀ x ∈ namesW, x.length ≤ 9 ∧ ∀ c ∈ x.cps.toList, c < 128 := by decide +kernel
  exact h
theorem cut_strs (ws : List Str) (lo hi : Option Int) : ∃ zs : List Str, cutV (ws.map V.str) lo hi = zs.map V.str ∧ (∀ x ∈ zs, x ∈ ws) ∧ zs.length ≤ ws.length := by
  refine ⟨(ws.drop (HT.sIx ws.length 0 lo)).take (HT.sIx ws.length ws.length hi - HT.sIx ws.length 0 lo), ?_, fun x hx => List.mem_of_mem_drop (List.mem_of_mem_take hx), ?_⟩
  · unfold cutV
    simp only [List.length_map, List.map_take, List.map_drop]
  · rw [List.length_take, List.length_drop]
    omega
theorem drw_same {p c : Addr} {H H' : Hp} (b : Bag H p c) (s : Same H H') : Drw p c H H' := ⟨b.keep s, fun a o e => by
  obtain ⟨h1, h2⟩ := hide_some e
  rw [hide_ne h1]
  exact s a o h2⟩
theorem at_getD {l : List Nat} {x : Int} (h0 : 0 ≤ x) (h1 : x < l.length) : atI l x = some (l.getD x.toNat 0) := by
  obtain ⟨n, rfl⟩ := Int.eq_ofNat_of_zero_le h0
  have lt : n < l.length := by omega
  refine atI_nat ?_
  rw [Int.toNat_natCast, List.getD_eq_getElem?_getD, List.getElem?_eq_getElem lt]
  rfl
theorem letters_lt (i : Nat) : letters.cps.toList.getD i 0 < 128 := by
  have all : ∀ x ∈ letters.cps.toList, x < 128 := by decide +kernel
  rw [List.getD_eq_getElem?_getD]
  cases e : letters.cps.toList[i]? with
  | none => exact (by decide : (0 : Nat) < 128)
  | some v => exact all v (List.mem_of_getElem? e)
theorem strs_list {H : Hp} {D : Addr} {n : Nat} {f : Nat → Str} (h : H D = some (.lst (((List.range n).filter fun _ => true).map fun i => V.str (f i)))) : H D = some (.lst (((List.range n).map f).map V.str)) := by
  rw [filter_true] at h
  rw [h, List.map_map]
  rfl
section
variable {Pg : Program} {w : World} {K : PySem.W.Frag} {mg : Str → Option Value} {base : Heap}
def spNm : Sp := fun vs H Q _ => ∃ (p c : Addr) (many : Nat), vs = [.ref p, .int many] ∧ Bag H p c ∧ many ≤ 9 ∧ ∀ (q : Addr) (ss : List Str) (H' : Hp), Drw p c H H' → H q = none → H' q = some (.lst (ss.map V.str)) → ss.length ≤ 24 → (∀ x ∈ ss, okT 9 x) → Q (.ref q) H'
theorem ok_names {f fT : Addr} {fd fdT : FuncData} (F : Fun K "_law_names" "_law_names" sNames f fd) (zR : mg "range" = none) (zI : mg "int" = none) (zSo : mg "sorted" = none)
    (CT : Cal Pg w K mg base 1 "_law_take" ["_law_bag_here", "_law_many"] spTake fT fdT) : FnOk Pg w K mg base CX0 2 f fd ["_law_bag_here", "_law_many"] spNm := by
  refine F.ok scNm (fun vs H Q E h => ?_) (fun cdv A outer s H vs Q E hr h => ?_)
  · obtain ⟨p, c, m, rfl, _⟩ := h
    rfl
  · obtain ⟨p, c, many, rfl, bg, mm, k⟩ := h
    refine ⟨_, pss_cons (ps_set (i := 2) scNm.nd rfl (Or.inl rfl) (pe_lst (pa_cons pe_str (pa_cons pe_str (pa_cons pe_str (pa_cons pe_str (pa_cons pe_str (pa_cons pe_str (pa_cons pe_str (pa_cons pe_str (pa_cons pe_str (pa_cons pe_str (pa_cons pe_str (pa_cons pe_str pa_nil))))))))))))))
      (pss_cons (ps_asg (pe_tup (pa_cons (pe_call CT.ok hr (by rfl) CT.mg CT.kp CT.bd .nil pass0 (pa_cons (pv 0) (pa_cons pe_int pa_nil))) (pa_cons (pe_call CT.ok hr (by rfl) CT.mg CT.kp CT.bd .nil pass0 (pa_cons (pv 0) (pa_cons pe_int pa_nil))) pa_nil))) (pg_tup (by rfl) (pgs_cons (pg_name (i := 3) scNm.nd rfl (Or.inr rfl)) (pgs_cons (pg_name (i := 4) scNm.nd rfl (Or.inr rfl)) pgs_nil))))
      (pss_cons (ps_if (pt_cmpR op_eq (pv 3) pe_int (nomark _)) (pss_one (ps_ret (pe_callB cr_sortedS (by rfl) zSo (by decide +kernel) (pa_cons (pe_slice sl_list (pe_op op_cat (pe_slice sl_list (pv 2) (po_some (pe_op op_mod (pe_callTy call_int1 (by rfl) zI (by decide +kernel) (pa_cons (pv 4) pa_nil)) pe_int)) po_none)
          (pe_slice sl_list (pv 2) po_none (po_some (pe_op op_mod (pe_callTy call_int1 (by rfl) zI (by decide +kernel) (pa_cons (pv 4) pa_nil)) pe_int)))) po_none (po_some (pv 1))) pa_nil)))) pss_nil)
      (pss_cons (ps_set (i := 5) scNm.nd rfl (Or.inr rfl) pe_str)
      (pss_one (ps_ret (pe_callB cr_sortedS (by rfl) zSo (by decide +kernel) (pa_cons (pe_lc (own := [("_law_k", 6)]) (g := gName 6) (tt := tYes) (by rfl) scNm.nd (pi_range1 (by rfl) zR (pa_cons (pv 1) pa_nil)) (blkOk_by (own := [("_law_k", 6)]) (N := NN) (sc := defScope sNames) (by decide +kernel)) (fun _ _ _ _ _ => pg_name (i := 6) scNm.nd rfl (Or.inl rfl)) (fun _ _ _ _ _ => pts_nil)
          (fun _ _ _ _ _ => pe_op op_add_str (pe_ix (r := rIxL K) ix_list (pe_lst (pa_cons pe_str (pa_cons pe_str pa_nil))) (pe_op op_sub (pv 3) pe_int) (fun _ _ => rfl)) (pe_ix ix_str (pv 5) (pe_op op_mod (pe_callTy call_int1 (by rfl) zI (by decide +kernel) (pa_cons (pe_op op_add (pv 4) (pe_op op_mul pe_int (pv 6))) pa_nil)) pe_int) (fun _ _ => rfl)))) pa_nil))))))), ?_⟩
    refine ⟨(by show 12 ≤ sizeLine; decide), fun q hq => ?_⟩
    have D1 := (Drw.refl bg).new (u := .lst (namesW.map V.str)) hq
    have nq : q ≠ p := bag_ne bg hq
    have l1 : upd H q (.lst (namesW.map V.str)) q = some (.lst (namesW.map V.str)) := upd_same
    have b1 := D1.bag
    refine ⟨_, rfl, p, c, _, rfl, b1, by decide, by decide, fun wy ws w0 w1 b2 => ?_⟩
    have D12 := (Drw.refl b1).trans (drw_take b2)
    have D2 := D1.trans D12
    have l2 := D12.get l1 nq
    refine ⟨_, rfl, p, c, _, rfl, D2.bag, by decide, by decide, fun tu ts t0 t1 b3 => ?_⟩
    have D23 := (Drw.refl D2.bag).trans (drw_take b3)
    have D3 := D2.trans D23
    have l3 := D23.get l2 nq
    refine ⟨(by show 2 ≤ sizeLine; decide), fun tp htp => ?_⟩
    have D34 := (Drw.refl D3.bag).new (u := .tup [.int wy, .int tu]) htp
    have D4 := D3.trans D34
    have l4 := D34.get l3 nq
    refine ⟨tp, _, rfl, SqT.of upd_same, rfl, _, _, rfl, _, _, rfl, rfl, ?_⟩
    refine ⟨_, rfl, rfl, _, rfl, ?_⟩
    refine ite2 (fun _ => ?_) (fun wz => ?_)
    · refine ⟨_, rfl, _, rfl, .inl ⟨_, rfl, _, _, rfl, rfl, (by show (0 : Int) < 12; decide), _, rfl, q, _, rfl, SqL.of l4, fun u1 hu1 => ?_⟩⟩
      obtain ⟨z1, e1, m1, n1⟩ := cut_strs namesW (some (tu % 12)) none
      rw [e1]
      have D45 := (Drw.refl D4.bag).new (u := .lst (z1.map V.str)) hu1
      have D5 := D4.trans D45
      have l5 := D45.get l4 nq
      have k5 : ∀ G : Hp, upd G u1 (.lst (z1.map V.str)) u1 = some (.lst (z1.map V.str)) := fun _ => upd_same
      refine ⟨_, rfl, _, rfl, .inl ⟨_, rfl, _, _, rfl, rfl, (by show (0 : Int) < 12; decide), _, rfl, q, _, rfl, SqL.of l5, fun u2 hu2 => ?_⟩⟩
      obtain ⟨z2, e2, m2, n2⟩ := cut_strs namesW none (some (tu % 12))
      rw [e2]
      have nu1 : u1 ≠ p := bag_ne D4.bag hu1
      have D56 := (Drw.refl D5.bag).new (u := .lst (z2.map V.str)) hu2
      have D6 := D5.trans D56
      have k6 := D56.get (k5 _) nu1
      refine ⟨u1, u2, _, _, rfl, rfl, k6, upd_same, ?_, fun u3 hu3 => ?_⟩
      · rw [List.length_map, List.length_map]
        exact Nat.le_trans (Nat.add_le_add n1 n2) (by decide)
      · have D67 := (Drw.refl D6.bag).new (u := .lst (z1.map V.str ++ z2.map V.str)) hu3
        have D7 := D6.trans D67
        refine ⟨_, rfl, _, rfl, u3, _, rfl, SqL.of upd_same, fun u4 hu4 => ?_⟩
        rw [← List.map_append]
        obtain ⟨z3, e3, m3, n3⟩ := cut_strs (z1 ++ z2) none (some (many : Int))
        have n3' : z3.length ≤ 24 := by
          rw [List.length_append] at n3
          have a : z1.length ≤ 12 := n1
          have b : z2.length ≤ 12 := n2
          omega
        rw [e3]
        rw [← List.map_append] at hu4 D7
        have D78 := (Drw.refl D7.bag).new (u := .lst (z3.map V.str)) hu4
        have D8 := D7.trans D78
        refine ⟨u4, z3, rfl, SqL.of upd_same, by omega, fun ys r pm _ hr9 => ?_⟩
        refine k r ys _ (D8.new hr9) (D8.some hr9) upd_same (by rw [pm.length_eq]; exact n3') fun x hx => ?_
        rcases List.mem_append.mp (m3 x (pm.mem_iff.mp hx)) with z | z
        · exact namesW_ok x (m1 x z)
        · exact namesW_ok x (m2 x z)
    · have wn : wy ≠ 0 := fun z => wz (by rw [z]; exact decide_eq_true rfl)
      obtain ⟨pre, hpre, opre⟩ : ∃ pre : Str, atI [V.str "", V.str "n"] (wy - 1) = some (.str pre) ∧ okT 1 pre := by
        have cs : wy = 1 ∨ wy = 2 := by omega
        rcases cs with rfl | rfl
        · exact ⟨"", rfl, by decide, by decide⟩
        · exact ⟨"n", rfl, by decide, by decide⟩
      refine ⟨_, rfl, many, rfl, by omega, by omega, fun D hD => lc_mf (n := many) (item := fun i => .int (0 + (i : Int))) (keep := fun _ => true) (val := fun i => .str (pre ++ ⟨#[letters.cps.toList.getD ((tu + 5 * (0 + (i : Int))) % 26).toNat 0]⟩)) hD (lt_line (by omega)) walks_range (fun i => rfl) (fun i H4 Z _ _ h => h H4 (Same.refl H4)) (fun i H4 Z hi _ s4 h => ?_) (fun H5 s5 hD5 => ?_)⟩
      · refine ⟨(by show 2 ≤ sizeLine; decide), fun r hr5 => ?_⟩
        refine ⟨_, rfl, _, _, rfl, rfl, r, _, _, _, rfl, rfl, SqL.of upd_same, hpre, ?_⟩
        refine ⟨_, rfl, _, rfl, _, rfl, _, _, rfl, rfl, .inl ⟨by decide, by decide⟩, _, _, rfl, rfl, .inl ⟨_, rfl, _, _, rfl, rfl, (by show (0 : Int) < 26; decide), ?_⟩⟩
        have m0 : 0 ≤ (tu + 5 * (0 + (i : Int))) % 26 := Int.emod_nonneg _ (by decide)
        have m1 : (tu + 5 * (0 + (i : Int))) % 26 < 26 := Int.emod_lt_of_pos _ (by decide)
        refine ⟨letters, _, _, rfl, rfl, by decide, at_getD m0 m1, ?_⟩
        refine ⟨_, _, rfl, rfl, Nat.le_trans (Nat.add_le_add_right opre.1 _) (by show 1 + 1 ≤ sizeLine; decide), ?_⟩
        exact h _ (upd_fresh (Same.refl H4) hr5)
      · have ls := strs_list hD5
        refine ⟨D, _, rfl, SqL.of ls, ?_, fun ys r pm _ hr9 => ?_⟩
        · rw [List.length_map, List.length_range]
          omega
        · have D45 := drw_same D4.bag s5
          have D5 := D4.trans D45
          refine k r ys _ (D5.new hr9) (D5.some hr9) upd_same ?_ fun x hx => ?_
          · rw [pm.length_eq, List.length_map, List.length_range]
            omega
          · obtain ⟨i, _, rfl⟩ := List.mem_map.mp (pm.mem_iff.mp hx)
            have o2 := okT_cat opre (y := ⟨#[letters.cps.toList.getD ((tu + 5 * (0 + (i : Int))) % 26).toNat 0]⟩) (m := 1) ⟨Nat.le_refl _, fun c hc => by
              have e : c = letters.cps.toList.getD ((tu + 5 * (0 + (i : Int))) % 26).toNat 0 := by simpa using hc
              rw [e]
              exact letters_lt _⟩
            exact ⟨Nat.le_trans o2.1 (by decide), o2.2⟩
end
/-! ### (a,) * k of any number -/
section
variable {X : Cx}
theorem flat_one {α : Type} (a : α) : ∀ n : Nat, (List.replicate n [a]).flatten = List.replicate n a
  | 0 => rfl
  | n + 1 => by
    rw [List.replicate_succ, List.flatten_cons, flat_one a n]
    rfl
def rMany (K : PySem.W.Frag) : R2 := fun x y H Q => ∃ (l : Addr) (k : Int) (a : V), x = .ref l ∧ y = .int k ∧ SqT K H l [a] ∧ 2 ≤ k ∧ k ≤ 1000000 ∧ ∀ p, H p = none → Q (.ref p) (upd H p (.tup (List.replicate k.toNat a)))
theorem op_many : OpR X (binaryOp .Mult) (rMany X.K) := by
  intro pins s σ H x y v u Q I rx ry h
  obtain ⟨l, k, a, rfl, rfl, hT, two, few, go⟩ := h
  obtain ⟨tk, rfl⟩ := ry
  cases (show v = Value.ref l from rx)
  obtain ⟨us, rel, ⟨⟨kls, dct, dat, slt⟩, at_, ek, m, ed⟩, _⟩ := I.tuple hT
  simp only at ek ed
  cases ek
  cases ed
  cases rel with
  | @cons _ b _ _ rb rest =>
    cases rest
    have one : ([b] : List Value).toArray.size = 1 := rfl
    have notEmpty : ([b] : List Value).toArray.isEmpty = false := rfl
    have hk : k.toNat ≤ 1000000 := by omega
    have inRange : (decide (k < -(2 ^ 63)) || decide (k ≥ 2 ^ 63)) = false := by
      rw [decide_eq_false (by omega), Bool.false_or]
      exact decide_eq_false (by omega)
    have notSame : (([b] : List Value).toArray.isEmpty || k == 1) = false := by
      rw [notEmpty, Bool.false_or]
      exact beq_eq_false_iff_ne.mpr (by omega)
    have positive : (decide (k ≤ 0) || ([b] : List Value).toArray.isEmpty) = false := by
      rw [notEmpty, Bool.or_false]
      exact decide_eq_false (by omega)
    have fits : Builtin.Tuple.tupleTooMany (((([b] : List Value).toArray.size : Nat) : Int) * k) = false := by
      unfold Builtin.Tuple.tupleTooMany
      rw [sizeLine_eq, one]
      exact decide_eq_false (by omega)
    have long : (List.replicate k.toNat [b]).flatten.length ≤ sizeLine := by
      rw [flat_one, List.length_replicate, sizeLine_eq]
      omega
    have step := tuple_mulW l ([b] : List Value).toArray m dct slt k tk inRange notSame positive (by rw [one]; omega) fits (by rw [size_rep, List.size_toArray]; exact long)
    have ty : ∀ s' : Shared, s'.TypeIs (.int k tk) "int" := fun s' => typeIs_int s' k tk
    have tl : s.TypeIs (.ref l) "tuple" := ⟨_, at_, rfl⟩
    refine wpAny_binaryOp_repeat_ref (U := "int") (T := "tuple") (by decide) tl ty noFill_tuple_mul F.fills_int_mul F.slot_int_rmul repeat_tuple F.slot_int_index.lookup ?_
    refine call_meets F.slot_int_rmul (ty s) F.entry_int_rmul (F.args_int_rmul_2 _ _) (int_rmul_tuple k tk l ([b] : List Value).toArray m dct slt) ⟨at_, rfl, tl, ?_⟩
    refine call_meets F.slot_tuple_mul tl F.entry_tuple_mul (F.args_tuple_mul_2 _ _) step ⟨at_, ?_⟩
    rw [size_rep]
    have vals : Vals (List.replicate k.toNat a) (List.replicate k.toNat [b]).flatten := by
      have z := (show Vals [a] [b] from .cons rb .nil).rep k.toNat
      rw [flat_one] at z
      exact z
    have laid := I.laid (t' := s.toks) (o := .tup (List.replicate k.toNat a)) (h' := s.heap.push { cls := .type "tuple", data := .seq (List.replicate k.toNat [b]).flatten.toArray }) (fun _ _ q => Heap.get?_push_of_some _ q) (Nat.le_refl _)
      ⟨by rw [List.length_replicate, sizeLine_eq]; omega, _, vals, IsTup.new _ _⟩
    exact ⟨.ref _, _, laid, rfl, go _ (I.hok.fresh (Nat.le_refl _))⟩
end
abbrev sLaw : Stmt := top 73
abbrev NL : List Str := ["_law_script", "_law_bag_here", "_law_deep", "_law_k", "_law_things", "_law_thing_here", "_law_shown", "_law_upto", "_law_body"]
theorem scL : FnScope NL ["_law_script"] (defScope sLaw) := ⟨rfl, rfl, rfl, by decide +kernel, rfl, by decide +kernel, by decide +kernel⟩
abbrev XL (Pg : Program) (w : World) (K : PySem.W.Frag) (mg : Str → Option Value) (base : Heap) (f : Addr) (cdv : Value) (A : Around) (outer : List Env) (s : Shared) (H : Hp) (E : XK) : Cx := (cxOf CX0 Pg w K mg base NL "law" (defScope sLaw) f cdv A outer s H E).nox
def deepD : Nat → PyData
  | 0 => .list []
  | n + 1 => .list [deepD n]
theorem fit_deep : ∀ n, Fit (n + 1) (5 * n + 5) (deepD n)
  | 0 => (fit_list (n := 0) (B := 0) (m := 1) (ds := []) (fun d hd => nomatch hd) (by decide) (by decide)).mono (by omega) (by omega)
  | n + 1 => (fit_list (m := 1) (fun d hd => by
      rw [List.mem_singleton.mp hd]
      exact fit_deep n) (by show 1 ≤ 1; decide) (by decide)).mono (by omega) (by omega)
theorem tn_strs {H : Hp} : ∀ ss : List Str, TnA H (ss.map V.str) (ss.map PyData.str)
  | [] => .nil
  | x :: ss => .cons (.str x) (tn_strs ss)
theorem tn_many {H : Hp} {v : V} {d : PyData} (t : Tn H v d) : ∀ n, TnA H (List.replicate n v) (List.replicate n d)
  | 0 => .nil
  | n + 1 => by
    rw [List.replicate_succ, List.replicate_succ]
    exact .cons t (tn_many t n)
/-- things of the law: new since HB, fit -/
def Things (HB H : Hp) (xs : List V) (ds : List PyData) : Prop := TnA (news HB H) xs ds ∧ ∀ d ∈ ds, Fit 30 1000000 d
theorem Things.app {HB H : Hp} {xs ys : List V} {ds es : List PyData} (a : Things HB H xs ds) (b : Things HB H ys es) : Things HB H (xs ++ ys) (ds ++ es) := ⟨TnA.app b.1 a.1, fun d hd => by
  rcases List.mem_append.mp hd with z | z
  · exact a.2 d z
  · exact b.2 d z⟩
theorem Things.later {p c : Addr} {HB H H' : Hp} {xs : List V} {ds : List PyData} (a : Things HB H xs ds) (hp : ∃ o, HB p = some o) (dr : Drw p c H H') : Things HB H' xs ds := ⟨tna_later a.1 hp dr fun _ h => h, a.2⟩
section
variable {Pg : Program} {w : World} {K : PySem.W.Frag} {mg : Str → Option Value} {base : Heap}
theorem lst2 {f : Addr} {cdv : Value} {A : Around} {outer : List Env} {s : Shared} {H : Hp} {E : XK} (zR : mg "range" = none) :
    ∃ t, PS (XL Pg w K mg base f cdv A outer s H E) ((defBody sLaw).getD 2 st0) t ∧ ∀ (D : Ends) (x0 x1 x3 x4 x5 x6 x7 x8 : Option V) (a0 : Addr) (HB H0 : Hp), HB a0 = none → H0 a0 = some (.lst []) → Smo HB → (∀ b, H0 b = none → HB b = none) →
      (∀ (v : V) (x3 : Option V) (H' : Hp), Same H0 H' → Tn (news HB H') v (deepD 20) → D.nx [x0, x1, some v, x3, x4, x5, x6, x7, x8] H') → t D [x0, x1, some (.ref a0), x3, x4, x5, x6, x7, x8] H0 := by
  refine ⟨_, ps_for PassesOwn.never rfl (pi_range1 (by rfl) zR (pa_cons pe_int pa_nil)) (pg_name (i := 3) scL.nd rfl (Or.inl rfl)) (pss_one (ps_set (i := 2) scL.nd rfl (Or.inl rfl) (pe_lst (pa_cons (pv 2) pa_nil)))), ?_⟩
  intro D x0 x1 x3 x4 x5 x6 x7 x8 a0 HB H0 na h0 mo dom kn
  have ns : ∀ {l : Addr}, HB l = none → l ≠ sysModules := fun h => mo.ne h
  refine ⟨20, rfl, by decide, by decide, for_range (lo := 0) (n := 20) (fun i σ H' => ∃ (v : V) (x3 : Option V), σ = [x0, x1, some v, x3, x4, x5, x6, x7, x8] ∧ Same H0 H' ∧ Tn (news HB H') v (deepD i)) ⟨_, x3, rfl, Same.refl _, .lst (ns na) (by rw [news_none na]; exact h0) .nil⟩ ?_ ?_⟩
  · rintro i σ H' hi ⟨v, y3, rfl, S, t⟩
    refine ⟨_, rfl, (by show 1 ≤ sizeLine; decide), fun l hl => ?_⟩
    have nl : HB l = none := dom l (S.free hl)
    refine ⟨.ref l, _, rfl, upd_fresh S (S.free hl), .lst (ns nl) (by rw [news_none nl]; exact upd_same) (.cons (Tn.keep (news_same (fun _ h => h) fun b o _ e => ?_) _ v t) .nil)⟩
    rw [upd_ne (ne_of_none e hl)]
    exact e
  · rintro σ H' ⟨v, y3, rfl, S, t⟩
    exact kn v y3 H' S t
theorem lst3 {f fT fA : Addr} {fdT fdA : FuncData} {cdv : Value} {A : Around} {outer : List Env} {s : Shared} {H : Hp} {E : XK} (zR : mg "range" = none) (CT : Cal Pg w K mg base 5 "_law_thing" ["_law_bag_here", "_law_deep"] (spThing 2) fT fdT) (CA : Cal Pg w K mg base 2 "_law_address" ["_law_bag_here"] spAddr fA fdA)
    (hr : Room 5 (XL Pg w K mg base f cdv A outer s H E).A) :
    ∃ t, PS (XL Pg w K mg base f cdv A outer s H E) ((defBody sLaw).getD 3 st0) t ∧ ∀ (D : Ends) (p c : Addr) (x0 x2 x3 x4 x5 x6 x7 x8 : Option V) (HB H0 : Hp), Bag HB p c → Drw p c HB H0 → Smo HB →
      (∀ (l : Addr) (xs : List V) (ds : List PyData) (H' : Hp), Drw p c H0 H' → HB l = none → H' l = some (.lst xs) → ds.length = 40 → Things HB H' xs ds → D.nx [x0, some (.ref p), x2, x3, some (.ref l), x5, x6, x7, x8] H') → t D [x0, some (.ref p), x2, x3, x4, x5, x6, x7, x8] H0 := by
  have hr2 : Room 2 (XL Pg w K mg base f cdv A outer s H E).A := hr.mono (by decide)
  refine ⟨_, ps_set (i := 4) scL.nd rfl (Or.inl rfl) (pe_op op_cat
    (pe_lc (own := [("_law_k", 3)]) (g := gName 3) (tt := tYes) (by rfl) scL.nd (pi_range1 (by rfl) zR (pa_cons pe_int pa_nil)) (blkOk_by (own := [("_law_k", 3)]) (N := NL) (sc := defScope sLaw) (by decide +kernel)) (fun _ _ _ _ _ => pg_name (i := 3) scL.nd rfl (Or.inl rfl)) (fun _ _ _ _ _ => pts_nil)
      (fun _ _ _ _ _ => pe_call CT.ok hr (by rfl) CT.mg CT.kp CT.bd .nil pass0 (pa_cons (pv 1) (pa_cons pe_int pa_nil))))
    (pe_lc (own := [("_law_k", 3)]) (g := gName 3) (tt := tYes) (by rfl) scL.nd (pi_range1 (by rfl) zR (pa_cons pe_int pa_nil)) (blkOk_by (own := [("_law_k", 3)]) (N := NL) (sc := defScope sLaw) (by decide +kernel)) (fun _ _ _ _ _ => pg_name (i := 3) scL.nd rfl (Or.inl rfl)) (fun _ _ _ _ _ => pts_nil)
      (fun _ _ _ _ _ => pe_call CA.ok hr2 (by rfl) CA.mg CA.kp CA.bd .nil pass0 (pa_cons (pv 1) pa_nil)))), ?_⟩
  intro D p c x0 x2 x3 x4 x5 x6 x7 x8 HB H0 bg dr0 mo kn
  have hp := bag_at bg
  have smo0 := dr0.smo mo
  have domD : ∀ {H1 : Hp} {D : Addr}, Drw p c HB H1 → H1 D = none → ∀ b, (upd H1 D (.lst [])) b = none → HB b = none := fun {H1 D} dr hD b hb => by
    by_cases y : b = D
    · rw [y]
      exact dr.some hD
    · rw [upd_ne y] at hb
      exact dr.some hb
  refine ⟨30, rfl, by decide, by decide, fun D1 hD1 => lc_draw (p := p) (c := c) (a := 3) (b := szB 2) dr0.bag hD1 (by decide) (fun i => rfl) (fun i H' Z dr h => ?_) (fun H1 xs ds dr1 hx tn hl hf => ?_)⟩
  · exact ⟨_, rfl, p, c, rfl, dr.bag, dr.smo smo0, fun v d H4 dr4 t4 f4 => h v d H4 dr4 t4 f4⟩
  · have dr01 := dr0.trans dr1
    have T1 : Things HB H1 xs ds := ⟨TnA.keep (news_same (domD dr0 hD1) fun b o _ h => h) ds xs tn, fun d hd => (hf d hd).mono (by decide) (by decide)⟩
    have n1 : D1 ≠ p := bag_ne dr0.bag hD1
    refine ⟨10, rfl, by decide, by decide, fun D2 hD2 => lc_draw (p := p) (c := c) (a := 2) (b := 3000) dr01.bag hD2 (by decide) (fun i => rfl) (fun i H' Z dr h => ?_) (fun H2 ys es dr2 hy tn2 hl2 hf2 => ?_)⟩
    · exact ⟨_, rfl, p, c, rfl, dr.bag, dr.smo (dr1.smo smo0), fun v d H4 dr4 t4 f4 => h v d H4 dr4 t4 f4⟩
    · have dr02 := dr01.trans dr2
      have T2 : Things HB H2 ys es := ⟨TnA.keep (news_same (domD dr01 hD2) fun b o _ h => h) es ys tn2, fun d hd => (hf2 d hd).mono (by decide) (by decide)⟩
      refine ⟨D1, D2, xs, ys, rfl, rfl, dr2.get hx n1, hy, ?_, fun l hl3 => ?_⟩
      · rw [tn.length, tn2.length, hl, hl2]
        decide
      · have dr3 := (Drw.refl dr02.bag).new (u := .lst (xs ++ ys)) hl3
        exact kn l (xs ++ ys) (ds ++ es) _ (dr1.trans (dr2.trans dr3)) (dr02.some hl3) upd_same (by rw [List.length_append, hl, hl2]; rfl) (((T1.later hp dr2).app T2).later hp dr3)
end
section
variable {Pg : Program} {w : World} {K : PySem.W.Frag} {mg : Str → Option Value} {base : Heap}
theorem strs_things {HB H : Hp} {ss : List Str} (h : ∀ x ∈ ss, okT 9 x) (few : ss.length ≤ 100) {q : Addr} (nq : HB q = none) (mo : Smo HB) (e : H q = some (.lst (ss.map V.str))) : Things HB H [.ref q] [.list (ss.map PyData.str)] :=
  ⟨.cons (.lst (mo.ne nq) (by rw [news_none nq]; exact e) (tn_strs ss)) .nil, fun d hd => by
    rw [List.mem_singleton.mp hd]
    refine (fit_list (n := 0) (B := 92) (m := 100) (fun d hd => ?_) (by rw [List.length_map]; exact few) (by decide)).mono (by decide) (by decide)
    obtain ⟨x, hx, rfl⟩ := List.mem_map.mp hd
    exact (fit_str (Nat.le_trans (h x hx).1 (by decide)) (fun c hc => Nat.lt_trans ((h x hx).2 c hc) (by decide))).mono (Nat.le_refl _) (by have := (h x hx).1; omega)⟩
theorem lst4 {f fN : Addr} {fdN : FuncData} {cdv : Value} {A : Around} {outer : List Env} {s : Shared} {H : Hp} {E : XK} (CN : Cal Pg w K mg base 2 "_law_names" ["_law_bag_here", "_law_many"] spNm fN fdN) (hr : Room 5 (XL Pg w K mg base f cdv A outer s H E).A) :
    ∃ t, PS (XL Pg w K mg base f cdv A outer s H E) ((defBody sLaw).getD 4 st0) t ∧ ∀ (D : Ends) (p c l0 : Addr) (dv : V) (xs : List V) (ds : List PyData) (x0 x3 x5 x6 x7 x8 : Option V) (HB H0 : Hp), Bag HB p c → Drw p c HB H0 → Smo HB → HB l0 = none → H0 l0 = some (.lst xs) → ds.length = 40 → Things HB H0 xs ds → Tn (news HB H0) dv (deepD 20) →
      (∀ (l : Addr) (xs : List V) (ds : List PyData) (H' : Hp), Drw p c H0 H' → HB l = none → H' l = some (.lst xs) → ds.length = 46 → Things HB H' xs ds → D.nx [x0, some (.ref p), some dv, x3, some (.ref l), x5, x6, x7, x8] H') → t D [x0, some (.ref p), some dv, x3, some (.ref l0), x5, x6, x7, x8] H0 := by
  have hr2 : Room 2 (XL Pg w K mg base f cdv A outer s H E).A := hr.mono (by decide)
  refine ⟨_, ps_set (i := 4) scL.nd rfl (Or.inl rfl) (pe_op op_cat (pv 4) (pe_lst (pa_cons (pe_op op_rep (pe_lst (pa_cons pe_int pa_nil)) pe_int) (pa_cons (pe_op op_many (pe_tup (pa_cons pe_str pa_nil)) pe_int) (pa_cons (pv 2)
    (pa_cons (pe_call CN.ok hr2 (by rfl) CN.mg CN.kp CN.bd .nil pass0 (pa_cons (pv 1) (pa_cons pe_int pa_nil))) (pa_cons (pe_op op_rep (pe_call CN.ok hr2 (by rfl) CN.mg CN.kp CN.bd .nil pass0 (pa_cons (pv 1) (pa_cons pe_int pa_nil))) pe_int)
    (pa_cons (pe_call CN.ok hr2 (by rfl) CN.mg CN.kp CN.bd .nil pass0 (pa_cons (pv 1) (pa_cons pe_int pa_nil))) pa_nil)))))))), ?_⟩
  intro D p c l0 dv xs ds x0 x3 x5 x6 x7 x8 HB H0 bg dr0 mo nl0 hl0 len T0 td kn
  have hp := bag_at bg
  have np : ∀ {q : Addr}, HB q = none → q ≠ p := fun h => bag_ne bg h
  refine ⟨_, rfl, (by show 1 ≤ sizeLine; decide), fun a1 ha1 => ?_⟩
  have E1 := (Drw.refl dr0.bag).new (u := .lst [.int 0]) ha1
  refine ⟨a1, 9000, [.int 0], rfl, rfl, upd_same, by decide, by decide, by show 1 * 9000 ≤ sizeLine; decide, fun a2 ha2 => ?_⟩
  rw [flat_one]
  have F1 := dr0.trans E1
  have E2 := (Drw.refl F1.bag).new (u := .lst (List.replicate (9000 : Int).toNat (.int 0))) ha2
  have F2 := F1.trans E2
  have n2 : HB a2 = none := F1.some ha2
  have T2 : Things HB (upd (upd H0 a1 (.lst [.int 0])) a2 (.lst (List.replicate (9000 : Int).toNat (.int 0)))) [.ref a2] [.list (List.replicate (9000 : Int).toNat (.int 0))] := ⟨.cons (.lst (mo.ne n2) (by rw [news_none n2]; exact upd_same) (tn_many (.int 0) _)) .nil, fun d hd => by
    rw [List.mem_singleton.mp hd]
    refine (fit_list (n := 0) (B := 80) (m := 9000) (fun d hd => ?_) (by rw [List.length_replicate]; decide) (by decide)).mono (by decide) (by decide)
    rw [List.eq_of_mem_replicate hd]
    exact fit_int (by decide)⟩
  have e2 : upd (upd H0 a1 (.lst [.int 0])) a2 (.lst (List.replicate (9000 : Int).toNat (.int 0))) = upd (upd H0 a1 (.lst [.int 0])) a2 (.lst (List.replicate (9000 : Int).toNat (.int 0))) := rfl
  generalize upd (upd H0 a1 (.lst [.int 0])) a2 (.lst (List.replicate (9000 : Int).toNat (.int 0))) = H2 at E2 F2 T2 e2
  refine ⟨(by show 1 ≤ sizeLine; decide), fun a3 ha3 => ?_⟩
  have E3 := (Drw.refl F2.bag).new (u := .tup [.str "a"]) ha3
  have F3 := F2.trans E3
  refine ⟨a3, 9000, .str "a", rfl, rfl, SqT.of upd_same, by decide, by decide, fun a4 ha4 => ?_⟩
  have E4 := (Drw.refl F3.bag).new (u := .tup (List.replicate (9000 : Int).toNat (.str "a"))) ha4
  have F4 := F3.trans E4
  have n4 : HB a4 = none := F3.some ha4
  have T4 : Things HB (upd (upd H2 a3 (.tup [.str "a"])) a4 (.tup (List.replicate (9000 : Int).toNat (.str "a")))) [.ref a4] [.tuple (List.replicate (9000 : Int).toNat (.str "a"))] := ⟨.cons (.tup (by rw [news_none n4]; exact upd_same) (tn_many (.str "a") _)) .nil, fun d hd => by
    rw [List.mem_singleton.mp hd]
    refine (fit_tuple (n := 0) (B := 80) (m := 9000) (fun d hd => ?_) (by rw [List.length_replicate]; decide) (by decide)).mono (by decide) (by decide)
    rw [List.eq_of_mem_replicate hd]
    exact (fit_str (by decide) (by decide)).mono (by decide) (by decide)⟩
  have T24 := T2.later hp (E3.trans E4)
  have l04 := (E1.trans (E2.trans (E3.trans E4))).get hl0 (np nl0)
  have T04 := T0.later hp (E1.trans (E2.trans (E3.trans E4)))
  have td4 := tn_later td hp (E1.trans (E2.trans (E3.trans E4))) (fun _ h => h)
  have E04 := E1.trans (E2.trans (E3.trans E4))
  generalize upd (upd H2 a3 (.tup [.str "a"])) a4 (.tup (List.replicate (9000 : Int).toNat (.str "a"))) = H4 at E4 F4 T4 T24 l04 T04 td4 E04
  refine ⟨_, rfl, _, rfl, p, c, 4, rfl, F4.bag, by decide, fun q5 s5 H5 E5 m5 l5 f5 o5 => ?_⟩
  have F5 := F4.trans E5
  have n5 : HB q5 = none := F4.some m5
  have T5 := strs_things o5 (Nat.le_trans f5 (by decide)) n5 mo l5
  refine ⟨_, rfl, p, c, 3, rfl, F5.bag, by decide, fun q6 s6 H6 E6 m6 l6 f6 o6 => ?_⟩
  have F6 := F5.trans E6
  refine ⟨q6, 2, _, rfl, rfl, l6, by decide, by decide, ?_, fun q7 m7 => ?_⟩
  · rw [List.length_map]
    exact Nat.le_trans (Nat.mul_le_mul_right _ f6) (by decide)
  have e7 : (List.replicate (2 : Int).toNat (s6.map V.str)).flatten = (s6 ++ s6).map V.str := by
    rw [List.map_append]
    show s6.map V.str ++ (s6.map V.str ++ []) = _
    rw [List.append_nil]
  rw [e7]
  have E7 := (Drw.refl F6.bag).new (u := .lst ((s6 ++ s6).map V.str)) m7
  have F7 := F6.trans E7
  have n7 : HB q7 = none := F6.some m7
  have T7 := strs_things (HB := HB) (H := upd H6 q7 (.lst ((s6 ++ s6).map V.str))) (ss := s6 ++ s6) (fun x hx => by
    rcases List.mem_append.mp hx with z | z
    · exact o6 x z
    · exact o6 x z) (by rw [List.length_append]; omega) n7 mo upd_same
  refine ⟨_, rfl, p, c, 9, rfl, F7.bag, by decide, fun q8 s8 H8 E8 m8 l8 f8 o8 => ?_⟩
  have F8 := F7.trans E8
  have n8 : HB q8 = none := F7.some m8
  have T8 := strs_things o8 (Nat.le_trans f8 (by decide)) n8 mo l8
  have E48 := E5.trans (E6.trans (E7.trans E8))
  refine ⟨(by show 6 ≤ sizeLine; decide), fun r9 m9 => ?_⟩
  have E9 := (Drw.refl F8.bag).new (u := .lst [.ref a2, .ref a4, dv, .ref q5, .ref q7, .ref q8]) m9
  have F9 := F8.trans E9
  have l09 := (E48.trans E9).get l04 (np nl0)
  refine ⟨l0, r9, _, _, rfl, rfl, l09, upd_same, ?_, fun l hl => ?_⟩
  · rw [T0.1.length, len]
    show 40 + 6 ≤ sizeLine
    decide
  have E10 := (Drw.refl F9.bag).new (u := .lst (xs ++ [.ref a2, .ref a4, dv, .ref q5, .ref q7, .ref q8])) hl
  have TD : Things HB H4 [dv] [deepD 20] := ⟨.cons td4 .nil, fun d hd => by
    rw [List.mem_singleton.mp hd]
    exact (fit_deep 20).mono (by decide) (by decide)⟩
  have P := ((T24.app T4).app TD)
  have P8 := P.later hp (E48.trans (E9.trans E10))
  have P5 := T5.later hp (E6.trans (E7.trans (E8.trans (E9.trans E10))))
  have P7 := T7.later hp (E8.trans (E9.trans E10))
  have P9 := T8.later hp (E9.trans E10)
  have ALL := (T04.later hp (E48.trans (E9.trans E10))).app (((P8.app P5).app P7).app P9)
  refine kn l _ _ _ (E04.trans (E48.trans (E9.trans E10))) (F9.some hl) upd_same ?_ ALL
  rw [List.length_append, len]
  rfl
end
section
variable {Pg : Program} {w : World} {K : PySem.W.Frag} {mg : Str → Option Value} {base : Heap}
def forBody : Stmt → List Stmt
  | .For _ _ b _ _ => b
  | _ => []
theorem lst5 {f fT fR : Addr} {fdT fdR : FuncData} {cdv : Value} {A : Around} {outer : List Env} {s : Shared} {H : Hp} {E : XK} (zRp : mg "repr" = none) (CT : Cal Pg w K mg base 1 "_law_take" ["_law_bag_here", "_law_many"] spTake fT fdT) (CR : CalG Pg w K mg base 3 "_law_right" ["_law_thing_here", "_law_upto"] spRight fR fdR)
    (hg : (XL Pg w K mg base f cdv A outer s H E).A.guards = some []) (hr : Room 5 (XL Pg w K mg base f cdv A outer s H E).A) :
    ∃ t, PS (XL Pg w K mg base f cdv A outer s H E) ((defBody sLaw).getD 5 st0) t ∧ ∀ (D : Ends) (p c l : Addr) (xs : List V) (ds : List PyData) (x0 x2 x3 x5 x6 x7 x8 : Option V) (HB H0 : Hp), Bag HB p c → Drw p c HB H0 → Smo HB → HB l = none → H0 l = some (.lst xs) → Things HB H0 xs ds →
      (∀ (x5 x6 x7 : Option V) (H' : Hp), Drw p c H0 H' → D.nx [x0, some (.ref p), x2, x3, some (.ref l), x5, x6, x7, x8] H') → t D [x0, some (.ref p), x2, x3, some (.ref l), x5, x6, x7, x8] H0 := by
  have hr1 : Room 1 (XL Pg w K mg base f cdv A outer s H E).A := hr.mono (by decide)
  have hr3 : Room 3 (XL Pg w K mg base f cdv A outer s H E).A := hr.mono (by decide)
  refine ⟨_, ps_for PassesOwn.never rfl (pi_list (pv 4)) (pg_name (i := 5) scL.nd rfl (Or.inl rfl))
    (pss_cons (ps_par (i := 6) (j := 7) (by rfl) scL.nd rfl rfl (by decide) rfl rfl (pa_cons (pe_callB (call_reprT hg hr.units) (by rfl) zRp (by decide +kernel) (pa_cons (pv 5) pa_nil))
        (pa_cons (pe_ix ix_list (pe_lst (pa_cons pe_int (pa_cons pe_int (pa_cons pe_int (pa_cons pe_int (pa_cons pe_int (pa_cons pe_int (pa_cons pe_int pa_nil)))))))) (pe_call CT.ok hr1 (by rfl) CT.mg CT.kp CT.bd .nil pass0 (pa_cons (pv 1) (pa_cons pe_int pa_nil))) (fun _ _ => rfl)) pa_nil)) (by rfl))
    (pss_one (ps_if (PW.pt (pw_or (pt_not (pt_val (pe_callG CR.ok hg hr3 (by rfl) CR.mg CR.kp CR.bd (pa_cons (pv 5) (pa_cons (pv 7) pa_nil))))) (pw_or (pt_not (pt_val (pe_callG CR.ok hg hr3 (by rfl) CR.mg CR.kp CR.bd (pa_cons (pv 5) (pa_cons (pv 7) pa_nil)))))
        (pw_or1 (pt_cmpR op_ne (pe_callB (call_reprT hg hr.units) (by rfl) zRp (by decide +kernel) (pa_cons (pv 5) pa_nil)) (pv 6) (nomark _)))))) (pss_one (ps_ret pe_bl)) pss_nil))), ?_⟩
  intro D p c l xs ds x0 x2 x3 x5 x6 x7 x8 HB H0 bg dr0 mo nl hl T kn
  have hp := bag_at bg
  have nlp : l ≠ p := bag_ne bg nl
  refine ⟨_, rfl, l, rfl, ⟨xs, SqL.of hl⟩, for_list (K := K) (a := l) (xs := xs) (fun i σ H' => ∃ x5 x6 x7 : Option V, σ = [x0, some (.ref p), x2, x3, some (.ref l), x5, x6, x7, x8] ∧ Drw p c H0 H') ⟨x5, x6, x7, rfl, Drw.refl dr0.bag⟩ ?_ ?_ ?_⟩
  · rintro i σ H' _ ⟨y5, y6, y7, rfl, dr⟩
    exact SqL.of (dr.get hl nlp)
  · rintro i x σ H' hx ⟨y5, y6, y7, rfl, dr⟩
    obtain ⟨d, hd, t0⟩ := T.1.at hx
    have fit := T.2 d (List.mem_of_getElem? hd)
    have big : d.shown.length ≤ sizeLine := Nat.le_trans fit.sz (by decide)
    have at_ : ∀ {H2 : Hp}, Drw p c H0 H2 → Tn H2 x d := fun dr2 => Tn.keep news_all d x (tn_later t0 hp dr2 fun _ h => h)
    have sm_ : ∀ {H2 : Hp}, Drw p c H0 H2 → Smo H2 := fun dr2 => dr2.smo (dr0.smo mo)
    refine ⟨_, rfl, x, d, rfl, at_ dr, fit.sh, fit.dp, big, ?_⟩
    refine ⟨(by show 7 ≤ sizeLine; decide), fun r hr7 => ?_⟩
    have dr2 := dr.new (u := .lst [.int 0, .int 1, .int 2, .int 3, .int 4, .int 6, .int 9]) hr7
    have nr : r ≠ p := bag_ne dr.bag hr7
    have lr : upd H' r (.lst [.int 0, .int 1, .int 2, .int 3, .int 4, .int 6, .int 9]) r = some (.lst [.int 0, .int 1, .int 2, .int 3, .int 4, .int 6, .int 9]) := upd_same
    refine ⟨_, rfl, p, c, _, rfl, dr2.bag, by decide, by decide, fun u us u0 u1 b3 => ?_⟩
    have dr23 := (Drw.refl dr2.bag).trans (drw_take b3)
    have dr3 := dr2.trans dr23
    obtain ⟨m, hat⟩ : ∃ m : Int, atI [V.int 0, .int 1, .int 2, .int 3, .int 4, .int 6, .int 9] u = some (.int m) := by
      have cs : u = 0 ∨ u = 1 ∨ u = 2 ∨ u = 3 ∨ u = 4 ∨ u = 5 ∨ u = 6 := by omega
      rcases cs with rfl | rfl | rfl | rfl | rfl | rfl | rfl <;> exact ⟨_, rfl⟩
    refine ⟨r, _, _, _, rfl, rfl, SqL.of (dr23.get lr nr), hat, _, _, rfl, ?_⟩
    generalize upd (upd H' r (.lst [.int 0, .int 1, .int 2, .int 3, .int 4, .int 6, .int 9])) p (.lst us) = H3 at dr3
    refine ⟨_, rfl, _, rfl, x, d, m, rfl, at_ dr3, fit.sm, sm_ dr3, fun H4 s4 => ⟨_, rfl, ?_⟩⟩
    have dr4 := dr3.trans (drw_same dr3.bag s4)
    refine ite2 (fun z => by cases z) (fun _ => ?_)
    refine ⟨_, rfl, _, rfl, x, d, m, rfl, at_ dr4, fit.sm, sm_ dr4, fun H5 s5 => ⟨_, rfl, ?_⟩⟩
    have dr5 := dr4.trans (drw_same dr4.bag s5)
    refine ite2 (fun z => by cases z) (fun _ => ?_)
    refine ⟨_, rfl, x, d, rfl, at_ dr5, fit.sh, fit.dp, big, _, rfl, rfl, _, rfl, ?_⟩
    refine ite2 (fun z => ?_) (fun _ => ⟨_, _, _, rfl, dr5⟩)
    rw [decide_eq_true rfl] at z
    cases z
  · rintro σ H' ⟨y5, y6, y7, rfl, dr⟩
    exact kn y5 y6 y7 H' dr
end
section
variable {Pg : Program} {w : World} {K : PySem.W.Frag} {mg : Str → Option Value} {base : Heap}
/-! ### is_way of a list of whatever -/
def spOneL : Sp := fun vs H Q _ => ∃ (a p : Addr) (xs : List V), vs = [.ref a, .ref p] ∧ H a = some (.lst xs) ∧ Q (.bl false) H
theorem ok_isOneL {f : Addr} {fd : FuncData} (F : Fun K "is_one_of" "is_one_of" sIsOne f fd) (zIs : mg "isinstance" = none) (zS : mg "str" = none) : FnOk Pg w K mg base CX0 1 f fd ["thing", "words"] spOneL := by
  refine F.ok scO (fun vs H Q E h => ?_) (fun cdv A outer s H vs Q E hr h => ?_)
  · obtain ⟨a, p, xs, rfl, _⟩ := h
    rfl
  · obtain ⟨a, p, xs, rfl, e, k⟩ := h
    refine ⟨_, pss_one (ps_ret (pe_and (pe_callB call_isi (by rfl) zIs (by decide +kernel) (pa_cons (pv 0) (pa_cons (pe_bltn (v := .ty "str") (by rfl) zS (by decide +kernel) rfl) pa_nil)))
      (pe_one (pe_cmpR op_in_seq (pv 0) (pv 1) (by with_unfolding_all rfl))))), ?_⟩
    refine ⟨_, rfl, .ref a, .ty "str", .type "list", .type "str", false, rfl, .ty _, .base (.lst e), kit_ty (by decide +kernel), false, rfl, ?_⟩
    exact ite2 (fun z => by cases z) (fun _ => k)
def spAskL : Sp := fun vs H Q _ => ∃ (a : Addr) (xs : List V), vs = [.ref a] ∧ H a = some (.lst xs) ∧ Q (.bl false) H
theorem ok_isWayL {f fO pw : Addr} {fd fdO : FuncData} (F : Fun K "is_way" "is_way" s_isWay f fd) (gC : mg "WAYS" = some (.ref pw)) (FO : FnOk Pg w K mg base CX0 1 fO fdO ["thing", "words"] spOneL) (gO : mg "is_one_of" = some (.ref fO)) (kO : PySem.W.keepIn K (.ref fO) = true) (bO : Binds K fdO ["thing", "words"] []) :
    FnOk Pg w K mg base CX0 2 f fd ["thing"] spAskL := by
  refine F.ok sc_isWay (fun vs H Q E h => ?_) (fun cdv A outer s H vs Q E hr h => ?_)
  · obtain ⟨a, xs, rfl, _⟩ := h
    rfl
  · obtain ⟨a, xs, rfl, e, k⟩ := h
    refine ⟨_, pss_one (ps_ret (pe_call FO hr (by rfl) gO kO bO .nil pass0 (pa_cons (pv 0) (pa_cons (pe_glob (v := .ref pw) (by rfl) gC rfl) pa_nil)))), ?_⟩
    exact ⟨_, rfl, a, pw, xs, rfl, e, k⟩
/-! ### the class of bodies -/
structure BC (K : PySem.W.Frag) (C : Addr) : Prop where
  cl : Cls K C
  ha : PySem.W.findIn K (.ref C) "__class__" = some (some (.builtin "object.__class__"))
  hn : PySem.W.specialIn K (.builtin "object.__class__") "__get__" = some (some (.builtin "getset_descriptor.__get__"))
  htk : PySem.W.takesIn K (.builtin "object.__class__") = some true
  hm : PySem.W.mroIn K C (.type "object") = some true
  kits : ∀ n ∈ ["int", "bool", "str", "list", "tuple"], PySem.W.kitOne K (.ref C) (.type n) = some false
theorem BC.odd {C a dx : Addr} {H : Hp} {fs : List (Str × V)} (b : BC K C) (e : H a = some (.ins C dx fs)) : Sees K H (.ref a) none :=
  .odd ⟨a, C, dx, fs, rfl, e, fun _ e' => .base (.ins e' b.cl b.ha b.hn b.htk b.hm), b.kits⟩
/-- a body of one given name without rows is made -/
def spBody (C : Addr) : Sp := fun vs H Q _ => ∃ (x dx g r : Addr), vs = [.ref x, .ref g, .ref r] ∧ H x = some (.ins C dx []) ∧ H dx = some (.own x) ∧ dx ≠ x ∧ H g = some (.lst [.str "a"]) ∧ H r = some (.lst []) ∧ g ≠ sysModules ∧ r ≠ sysModules ∧ ∀ (fs : List (Str × V)) (H' : Hp), H' x = some (.ins C dx fs) → Q .non H'
def spLaw (K : PySem.W.Frag) : Sp := fun vs H Q _ => ∃ (a : Addr) (ns : List Int), vs = [.ref a] ∧ SqL K H a (ns.map V.int) ∧ ns.length ≤ 63 ∧ Smo H ∧ ∀ H', Q (.bl true) H'
theorem ok_law {f fB fT fTh fA fN fR f1 f2 f3 f4 f5 fI C : Addr} {fd fdB fdT fdTh fdA fdN fdR d1 d2 d3 d4 d5 fdI : FuncData} (F : Fun K "law" "law" sLaw f fd) (zR : mg "range" = none) (zRp : mg "repr" = none)
    (CB : Cal Pg w K mg base 1 "_law_bag" ["_law_script"] (spBag K) fB fdB) (CT : Cal Pg w K mg base 1 "_law_take" ["_law_bag_here", "_law_many"] spTake fT fdT) (CTh : Cal Pg w K mg base 5 "_law_thing" ["_law_bag_here", "_law_deep"] (spThing 2) fTh fdTh)
    (CA : Cal Pg w K mg base 2 "_law_address" ["_law_bag_here"] spAddr fA fdA) (CN : Cal Pg w K mg base 2 "_law_names" ["_law_bag_here", "_law_many"] spNm fN fdN) (CR : CalG Pg w K mg base 3 "_law_right" ["_law_thing_here", "_law_upto"] spRight fR fdR)
    (C1 : Cal Pg w K mg base 1 "is_integer" ["thing"] (spAsk K dInt) f1 d1) (C2 : Cal Pg w K mg base 1 "is_name" ["thing"] (spAsk K dName) f2 d2) (C3 : Cal Pg w K mg base 2 "are_names" ["thing", "most"] (spNames K) f3 d3) (C4 : Cal Pg w K mg base 2 "is_address" ["thing"] (spAsk K dAddr) f4 d4)
    (C5 : Cal Pg w K mg base 2 "is_way" ["thing"] spAskL f5 d5) (gC : mg "Body" = some (.ref C)) (bc : BC K C) (M : Mk K C fI) (FI : FnOk Pg w K mg base CX0 4 fI fdI ["self", "given", "rows"] (spBody C)) (bI : Binds K fdI ["self", "given", "rows"] []) :
    FnG Pg w K mg base 9 f fd ["_law_script"] (spLaw K) := by
  refine okG F scL (fun vs H Q E h => ?_) (fun cdv A outer s H vs Q E hg hr h => ?_)
  · obtain ⟨a, ns, rfl, _⟩ := h
    rfl
  · obtain ⟨a, ns, rfl, hS, few, mo, k⟩ := h
    have hr1 : Room 1 (XL Pg w K mg base f cdv A outer s H E).A := hr.mono (by decide)
    have hr2 : Room 2 (XL Pg w K mg base f cdv A outer s H E).A := hr.mono (by decide)
    have hr5 : Room 5 (XL Pg w K mg base f cdv A outer s H E).A := hr.mono (by decide)
    obtain ⟨t2, p2, q2⟩ := lst2 (Pg := Pg) (w := w) (K := K) (base := base) (f := f) (cdv := cdv) (A := A) (outer := outer) (s := s) (H := H) (E := E) zR
    obtain ⟨t3, p3, q3⟩ := lst3 (f := f) (cdv := cdv) (A := A) (outer := outer) (s := s) (H := H) (E := E) zR CTh CA hr5
    obtain ⟨t4, p4, q4⟩ := lst4 (f := f) (cdv := cdv) (A := A) (outer := outer) (s := s) (H := H) (E := E) CN hr5
    obtain ⟨t5, p5, q5⟩ := lst5 (f := f) (cdv := cdv) (A := A) (outer := outer) (s := s) (H := H) (E := E) zRp CT CR hg hr5
    refine ⟨_, pss_cons (ps_set (i := 1) scL.nd rfl (Or.inr rfl) (pe_call CB.ok hr1 (by rfl) CB.mg CB.kp CB.bd .nil pass0 (pa_cons (pv 0) pa_nil)))
      (pss_cons (ps_set (i := 2) scL.nd rfl (Or.inl rfl) (pe_lst pa_nil)) (pss_cons p2 (pss_cons p3 (pss_cons p4 (pss_cons p5
      (pss_cons (ps_set (i := 8) scL.nd rfl (Or.inl rfl) (pe_make M FI hr5 (by rfl) gC bI .nil pass0 (pa_cons (pe_lst (pa_cons pe_str pa_nil)) (pa_cons (pe_lst pa_nil) pa_nil))))
      (pss_one (ps_ret (pe_cmpR (op_eqD hr.units) (pe_lst (pa_cons (pe_call C1.ok hr1 (by rfl) C1.mg C1.kp C1.bd .nil pass0 (pa_cons (pv 8) pa_nil)) (pa_cons (pe_call C2.ok hr1 (by rfl) C2.mg C2.kp C2.bd .nil pass0 (pa_cons (pv 8) pa_nil))
        (pa_cons (pe_call C3.ok hr2 (by rfl) C3.mg C3.kp C3.bd .nil pass0 (pa_cons (pv 8) (pa_cons pe_int pa_nil))) (pa_cons (pe_call C4.ok hr2 (by rfl) C4.mg C4.kp C4.bd .nil pass0 (pa_cons (pv 8) pa_nil))
        (pa_cons (pe_call C5.ok hr2 (by rfl) C5.mg C5.kp C5.bd .nil pass0 (pa_cons (pe_lst (pa_cons (pv 8) pa_nil)) pa_nil)) pa_nil)))))) (pe_op op_rep (pe_lst (pa_cons pe_bl pa_nil)) pe_int) (nomark _)))))))))), ?_⟩
    refine ⟨_, rfl, a, ns, rfl, hS, Nat.le_trans few (by decide), fun HB p c sB np nc bg => ?_⟩
    have moB : Smo HB := smo_same mo sB
    refine ⟨by decide, fun a0 ha0 => ?_⟩
    have dr1 := (Drw.refl bg).new (u := .lst []) ha0
    refine q2 _ _ _ _ _ _ _ _ _ a0 HB _ ha0 upd_same moB (fun b hb => dr1.some hb) fun dv x3 H2 s2 td => ?_
    have dr2 := dr1.trans (drw_same dr1.bag s2)
    refine q3 _ p c _ _ _ _ _ _ _ _ HB H2 bg dr2 moB fun l3 xs3 ds3 H3 e3 n3 h3 len3 T3 => ?_
    refine q4 _ p c l3 dv xs3 ds3 _ _ _ _ _ _ HB H3 bg (dr2.trans e3) moB n3 h3 len3 T3 (tn_later td (bag_at bg) e3 fun _ h => h) fun l4 xs4 ds4 H4 e4 n4 h4 len4 T4 => ?_
    refine q5 _ p c l4 xs4 ds4 _ _ _ _ _ _ _ HB H4 bg ((dr2.trans e3).trans e4) moB n4 h4 T4 fun x5 x6 x7 H5 e5 => ?_
    refine ⟨(by show 1 ≤ sizeLine; decide), fun g hgn => ⟨by decide, fun r hrn => ?_⟩⟩
    have m5 : Smo H5 := (((dr2.trans e3).trans e4).trans e5).smo moB
    have sg : g ≠ sysModules := m5.ne hgn
    have sr : r ≠ sysModules := (Smo.upd m5).ne hrn
    intro x dx hx hdx nex
    have lg : (upd (upd H5 g (.lst [.str "a"])) r (.lst [])) g = some (.lst [.str "a"]) := by
      rw [upd_ne (ne_of_none upd_same hrn)]
      exact upd_same
    have lr : (upd (upd H5 g (.lst [.str "a"])) r (.lst [])) r = some (.lst []) := upd_same
    have put : ∀ {b : Addr} {o : HO}, (upd (upd H5 g (.lst [.str "a"])) r (.lst [])) b = some o → (upd (upd (upd (upd H5 g (.lst [.str "a"])) r (.lst [])) dx (.own x)) x (.ins C dx [])) b = some o := fun {b o} e => by
      rw [upd_ne (ne_of_none e hx), upd_ne (ne_of_none e hdx)]
      exact e
    refine ⟨x, dx, g, r, rfl, upd_same, by rw [upd_ne nex, upd_same], nex, put lg, put lr, sg, sr, fun fs H6 h6 => ⟨rfl, ?_⟩⟩
    have see : ∀ {H7 : Hp}, Same H6 H7 → Sees K H7 (.ref x) none := fun s7 => bc.odd (s7 _ _ h6)
    refine ⟨_, rfl, .ref x, none, rfl, see (Same.refl _), rfl, fun H7 s7 => ⟨_, rfl, .ref x, none, rfl, see s7, rfl, fun H8 s8 => ⟨_, rfl, .ref x, none, 3, rfl, see (s7.trans s8), rfl, fun H9 s9 => ⟨_, rfl, .ref x, none, rfl, see (s7.trans (s8.trans s9)), rfl, fun H10 s10 => ?_⟩⟩⟩⟩
    refine ⟨_, rfl, (by show 1 ≤ sizeLine; decide), fun wl hw => ?_⟩
    refine ⟨wl, _, rfl, upd_same, ?_⟩
    refine ⟨(by show 5 ≤ sizeLine; decide), fun o1 ho1 => ?_⟩
    have k1 : ∀ G : Hp, upd G o1 (.lst [.bl (dInt none), .bl (dName none), .bl (dNames 3 none), .bl (dAddr none), .bl false]) o1 = some (.lst [.bl (dInt none), .bl (dName none), .bl (dNames 3 none), .bl (dAddr none), .bl false]) := fun _ => upd_same
    refine ⟨(by show 1 ≤ sizeLine; decide), fun o2 ho2 => ?_⟩
    refine ⟨o2, 5, [.bl false], rfl, rfl, upd_same, by decide, by decide, (by show 1 * 5 ≤ sizeLine; decide), fun o3 ho3 => ?_⟩
    have l1 : (upd (upd (upd (upd H10 wl (.lst [.ref x])) o1 (.lst [.bl (dInt none), .bl (dName none), .bl (dNames 3 none), .bl (dAddr none), .bl false])) o2 (.lst [.bl false])) o3 (.lst [.bl false, .bl false, .bl false, .bl false, .bl false])) o1 = some (.lst ([false, false, false, false, false].map V.bl)) := by
      have e1 := k1 (upd H10 wl (.lst [.ref x]))
      have e2 : (upd (upd (upd H10 wl (.lst [.ref x])) o1 (.lst [.bl (dInt none), .bl (dName none), .bl (dNames 3 none), .bl (dAddr none), .bl false])) o2 (.lst [.bl false])) o1 = some (.lst [.bl (dInt none), .bl (dName none), .bl (dNames 3 none), .bl (dAddr none), .bl false]) := by
        rw [upd_ne (ne_of_none e1 ho2)]
        exact e1
      rw [upd_ne (ne_of_none e2 ho3)]
      exact e2
    refine ⟨.list ([false, false, false, false, false].map PyData.bool), .list ([false, false, false, false, false].map PyData.bool), .lst (SqL.of l1) (TnA.dp _ _ (tn_bools _) (bools_lay _).2), .lst (SqL.of upd_same) (TnA.dp _ _ (tn_bools [false, false, false, false, false]) (bools_lay _).2), bools_shaped _ (by decide), bools_shaped _ (by decide), ?_⟩
    rw [SeqAt.eqv_refl _ (SeqAt.canLay_of_shaped (bools_shaped _ (by decide)))]
    exact k _
end
/-! ### what is never run needs no rule -/
section
variable {X : Cx}
theorem pe_no {e : Expr} : PE X e fun _ _ _ => False := ⟨fun _ _ _ _ _ _ h => h.elim⟩
theorem pss_no {ss : List Stmt} : PSs X ss fun _ _ _ => False := ⟨fun _ _ _ _ _ _ h => h.elim⟩
theorem pi_no {tg it : Expr} : PI X tg it fun _ _ _ => False := ⟨fun _ _ _ _ _ _ h => h.elim⟩
theorem pg_no {tg : Expr} : PG X tg fun _ _ _ _ => False := ⟨fun _ _ _ _ _ _ _ _ _ h => h.elim⟩
end
section
variable {Pg : Program} {w : World} {K : PySem.W.Frag} {mg : Str → Option Value} {base : Heap}
abbrev sGiven : Stmt := top 60
abbrev sRows : Stmt := top 31
abbrev sAll : Stmt := top 38
abbrev sNamesIn : Stmt := top 40
abbrev sMarksIn : Stmt := top 41
abbrev sCount : Stmt := top 45
abbrev sDepth : Stmt := top 46
abbrev sRoom : Stmt := top 54
abbrev sSingle : Stmt := top 55
/-! ### given names ["a"], no rows -/
def spYes (x : List V) : Sp := fun vs H Q _ => ∃ (g : Addr), vs = [.ref g] ∧ H g = some (.lst x) ∧ g ≠ sysModules ∧ ∀ H', Same H H' → Q (.bl true) H'
theorem scGi : FnScope ["thing"] ["thing"] (defScope sGiven) := ⟨rfl, rfl, rfl, by decide +kernel, rfl, by decide +kernel, by decide +kernel⟩
theorem ok_given {f fN : Addr} {fd fdN : FuncData} (F : Fun K "are_given" "are_given" sGiven f fd) (zLen : mg "len" = none) (zSet : mg "set" = none) (gM : ∃ t, mg "MOST_GIVEN" = some (.int 4 t)) (CN : Cal Pg w K mg base 2 "are_names" ["thing", "most"] (spNames K) fN fdN) :
    FnOk Pg w K mg base CX0 3 f fd ["thing"] (spYes [.str "a"]) := by
  obtain ⟨tk, gM⟩ := gM
  refine F.ok scGi (fun vs H Q E h => ?_) (fun cdv A outer s H vs Q E hr h => ?_)
  · obtain ⟨g, rfl, _⟩ := h
    rfl
  · obtain ⟨g, rfl, hg, ng, k⟩ := h
    refine ⟨_, pss_one (ps_ret (pe_and (pe_call CN.ok hr (by rfl) CN.mg CN.kp CN.bd .nil pass0 (pa_cons (pv 0) (pa_cons (pe_glob (v := .int 4) (by rfl) gM ⟨_, rfl⟩) pa_nil)))
      (pe_one (pe_cmpR op_eq (pe_lenSet (by rfl) (by rfl) zLen (by rfl) zSet (pv 0)) (pe_callB call_len_seq (by rfl) zLen PySem.boot_len (pa_cons (pv 0) pa_nil)) (nomark _))))), ?_⟩
    refine ⟨_, rfl, .ref g, some (.list [.str "a"]), 4, rfl, .thing (.lst ng hg (.cons (.str "a") .nil)), by decide, fun H1 s1 => ?_⟩
    refine ⟨dNames 4 (some (.list [.str "a"])), rfl, ?_⟩
    have e : dNames 4 (some (.list [.str "a"])) = true := by decide +kernel
    rw [e]
    refine ite2 (fun _ => ?_) (fun z => absurd rfl z)
    refine ⟨_, rfl, g, ["a"], rfl, .inl (SqL.of (s1 _ _ hg)), Nat.le_refl _, _, rfl, g, _, rfl, .inl (SqL.of (s1 _ _ hg)), rfl, ?_⟩
    exact k H1 s1
theorem scRo : FnScope ["thing", "row"] ["thing"] (defScope sRows) := ⟨rfl, rfl, rfl, by decide +kernel, rfl, by decide +kernel, by decide +kernel⟩
theorem ok_rows {f fL : Addr} {fd fdL : FuncData} (F : Fun K "are_rows" "are_rows" sRows f fd) (zAll : mg "all" = none) (CL : Cal Pg w K mg base 1 "is_list" ["thing"] (spAsk K dList) fL fdL) : FnOk Pg w K mg base CX0 2 f fd ["thing"] (spYes []) := by
  refine F.ok scRo (fun vs H Q E h => ?_) (fun cdv A outer s H vs Q E hr h => ?_)
  · obtain ⟨g, rfl, _⟩ := h
    rfl
  · obtain ⟨g, rfl, hg, ng, k⟩ := h
    refine ⟨_, pss_one (ps_ret (pe_and (pe_call CL.ok hr (by rfl) CL.mg CL.kp CL.bd .nil pass0 (pa_cons (pv 0) pa_nil))
      (pe_one (pe_callB (cr_all rfl) (by rfl) zAll (by decide +kernel) (pa_cons (pe_lc (own := [("row", 1)]) (g := gName 1) (tt := tYes) (by rfl) scRo.nd (pi_list (pv 0)) (blkOk_by (own := [("row", 1)]) (N := ["thing", "row"]) (sc := defScope sRows) (by decide +kernel)) (fun _ _ _ _ _ => pg_name (i := 1) scRo.nd rfl (Or.inl rfl)) (fun _ _ _ _ _ => pts_nil)
        (fun _ _ _ _ _ => pe_no)) pa_nil))))), ?_⟩
    refine ⟨_, rfl, .ref g, some (.list []), rfl, .thing (.lst ng hg .nil), by decide, fun H1 s1 => ⟨true, rfl, ?_⟩⟩
    refine ite2 (fun _ => ?_) (fun z => absurd rfl z)
    refine ⟨_, rfl, g, rfl, ⟨[], SqL.of (s1 _ _ hg)⟩, fun D hD => lc_mf (te := fun _ _ _ => False) (tt := tYes) (n := 0) (item := fun i => ([] : List V).getD i .non) (keep := fun _ => true) (val := fun i => .bl true) hD (by decide) (walks_list (xs := []) (SqL.of (s1 _ _ hg))) (fun i => rfl) (fun i H4 Z hi _ _ => absurd hi (Nat.not_lt_zero i)) (fun i H4 Z hi _ _ _ => absurd hi (Nat.not_lt_zero i)) (fun H4 s4 hD4 => ?_)⟩
    exact ⟨D, [], rfl, SqL.of hD4, k H4 (s1.trans s4)⟩
/-- an empty list, new -/
def spNew : Sp := fun vs H Q _ => ∃ (r : Addr), vs = [.ref r] ∧ H r = some (.lst []) ∧ ∀ (p : Addr) (H' : Hp), Same H H' → H p = none → H' p = some (.lst []) → Q (.ref p) H'
theorem scAll : FnScope ["rows", "found", "row", "inner"] ["rows"] (defScope sAll) := ⟨rfl, rfl, rfl, by decide +kernel, rfl, by decide +kernel, by decide +kernel⟩
theorem ok_all {f : Addr} {fd : FuncData} (F : Fun K "all_rows" "all_rows" sAll f fd) : FnOk Pg w K mg base CX0 1 f fd ["rows"] spNew := by
  refine F.ok scAll (fun vs H Q E h => ?_) (fun cdv A outer s H vs Q E hr h => ?_)
  · obtain ⟨r, rfl, _⟩ := h
    rfl
  · obtain ⟨r, rfl, hr0, k⟩ := h
    refine ⟨_, pss_cons (ps_set (i := 1) scAll.nd rfl (Or.inl rfl) (pe_lst pa_nil)) (pss_cons (ps_for PassesOwn.never rfl (pi_list (pv 0)) (pg_name (i := 2) scAll.nd rfl (Or.inl rfl)) pss_no) (pss_one (ps_ret (pv 1)))), ?_⟩
    refine ⟨by decide, fun p hp => ?_⟩
    have s1 := upd_fresh (u := .lst []) (Same.refl H) hp
    refine ⟨_, rfl, r, rfl, ⟨[], SqL.of (s1 _ _ hr0)⟩, for_list (tb := fun _ _ _ => False) (K := K) (a := r) (xs := []) (fun i σ H' => σ = [some (.ref r), some (.ref p), none, none] ∧ H' = upd H p (.lst [])) ⟨rfl, rfl⟩ ?_ ?_ ?_⟩
    · rintro i σ H' _ ⟨rfl, rfl⟩
      exact SqL.of (s1 _ _ hr0)
    · intro i x σ H' hx _
      rw [List.getElem?_nil] at hx
      cases hx
    · rintro σ H' ⟨rfl, rfl⟩
      exact ⟨_, rfl, k p _ s1 hp upd_same⟩
def spZero : Sp := fun vs H Q _ => ∃ (r : Addr), vs = [.ref r] ∧ H r = some (.lst []) ∧ ∀ H', Same H H' → Q (.int 0) H'
theorem scCo : FnScope ["rows"] ["rows"] (defScope sCount) := ⟨rfl, rfl, rfl, by decide +kernel, rfl, by decide +kernel, by decide +kernel⟩
theorem ok_count {f fA : Addr} {fd fdA : FuncData} (F : Fun K "count" "count" sCount f fd) (zLen : mg "len" = none) (CA : Cal Pg w K mg base 1 "all_rows" ["rows"] spNew fA fdA) : FnOk Pg w K mg base CX0 2 f fd ["rows"] spZero := by
  refine F.ok scCo (fun vs H Q E h => ?_) (fun cdv A outer s H vs Q E hr h => ?_)
  · obtain ⟨r, rfl, _⟩ := h
    rfl
  · obtain ⟨r, rfl, hr0, k⟩ := h
    refine ⟨_, pss_one (ps_ret (pe_callB call_len_seq (by rfl) zLen PySem.boot_len (pa_cons (pe_call CA.ok hr (by rfl) CA.mg CA.kp CA.bd .nil pass0 (pa_cons (pv 0) pa_nil)) pa_nil))), ?_⟩
    exact ⟨_, rfl, r, rfl, hr0, fun p H1 s1 _ e1 => ⟨p, [], rfl, .inl (SqL.of e1), k H1 s1⟩⟩
theorem scDe : FnScope ["rows", "row", "inner"] ["rows"] (defScope sDepth) := ⟨rfl, rfl, rfl, by decide +kernel, rfl, by decide +kernel, by decide +kernel⟩
theorem ok_depth {f : Addr} {fd : FuncData} (F : Fun K "depth" "depth" sDepth f fd) (zLen : mg "len" = none) : FnOk Pg w K mg base CX0 1 f fd ["rows"] spZero := by
  refine F.ok scDe (fun vs H Q E h => ?_) (fun cdv A outer s H vs Q E hr h => ?_)
  · obtain ⟨r, rfl, _⟩ := h
    rfl
  · obtain ⟨r, rfl, hr0, k⟩ := h
    refine ⟨_, pss_cons (ps_if (pt_cmpR op_eq (pe_callB call_len_seq (by rfl) zLen PySem.boot_len (pa_cons (pv 0) pa_nil)) pe_int (nomark _)) (pss_one (ps_ret pe_int)) pss_nil) pss_no, ?_⟩
    refine ⟨_, rfl, r, [], rfl, .inl (SqL.of hr0), rfl, _, rfl, ?_⟩
    exact ite2 (fun _ => k H (Same.refl H)) (fun z => absurd rfl z)
end
/-! ### over nothing: comprehensions in two steps -/
section
variable {Pg : Program} {w : World} {K : PySem.W.Frag} {mg : Str → Option Value} {base : Heap}
theorem scMi : FnScope ["rows", "row", "mark"] ["rows"] (defScope sMarksIn) := ⟨rfl, rfl, rfl, by decide +kernel, rfl, by decide +kernel, by decide +kernel⟩
theorem ok_marks {f fA : Addr} {fd fdA : FuncData} (F : Fun K "marks_in" "marks_in" sMarksIn f fd) (CA : Cal Pg w K mg base 1 "all_rows" ["rows"] spNew fA fdA) : FnOk Pg w K mg base CX0 2 f fd ["rows"] spNew := by
  refine F.ok scMi (fun vs H Q E h => ?_) (fun cdv A outer s H vs Q E hr h => ?_)
  · obtain ⟨r, rfl, _⟩ := h
    rfl
  · obtain ⟨r, rfl, hr0, k⟩ := h
    refine ⟨_, pss_one (ps_ret (pe_lc2 (own := [("row", 1), ("mark", 2)]) (vs1 := [2]) (g := gName 1) (tt := tYes) (g1 := gName 2) (tt1 := tYes) (by rfl) scMi.nd (pi_list (pe_call CA.ok hr (by rfl) CA.mg CA.kp CA.bd .nil pass0 (pa_cons (pv 0) pa_nil))) (blkOk_by (own := [("row", 1), ("mark", 2)]) (N := ["rows", "row", "mark"]) (sc := defScope sMarksIn) (by decide +kernel)) (by decide)
      (fun _ _ _ _ _ => pg_name (i := 1) scMi.nd rfl (Or.inl rfl)) (fun _ _ _ _ _ => pts_nil) (fun _ _ _ _ _ => pi_no) (fun _ _ _ _ _ => pg_name (i := 2) scMi.nd rfl (Or.inl rfl)) (fun _ _ _ _ _ => pts_nil) (fun _ _ _ _ _ => pe_no))), ?_⟩
    refine ⟨_, rfl, r, rfl, hr0, fun p H1 s1 np e1 => ⟨p, rfl, ⟨[], SqL.of e1⟩, fun D hD => ⟨fun i _ H' => i = 0 ∧ H' = upd H1 D (.lst []), ⟨0, rfl, rfl⟩, fun i m H' hh => ?_⟩⟩⟩
    obtain ⟨rfl, rfl⟩ := hh
    refine .inl ⟨⟨[], SqL.of (by rw [upd_ne (ne_of_none e1 hD)]; exact e1), Nat.le_refl _⟩, ?_⟩
    exact k D _ (upd_fresh s1 (s1.free hD)) (s1.free hD) upd_same
theorem scNi : FnScope ["rows", "row", "name"] ["rows"] (defScope sNamesIn) := ⟨rfl, rfl, rfl, by decide +kernel, rfl, by decide +kernel, by decide +kernel⟩
theorem ok_namesIn {f fA : Addr} {fd fdA : FuncData} (F : Fun K "names_in" "names_in" sNamesIn f fd) (zSo : mg "sorted" = none) (zSet : mg "set" = none) (CA : Cal Pg w K mg base 1 "all_rows" ["rows"] spNew fA fdA) : FnOk Pg w K mg base CX0 2 f fd ["rows"] spNew := by
  refine F.ok scNi (fun vs H Q E h => ?_) (fun cdv A outer s H vs Q E hr h => ?_)
  · obtain ⟨r, rfl, _⟩ := h
    rfl
  · obtain ⟨r, rfl, hr0, k⟩ := h
    refine ⟨_, pss_one (ps_ret (pe_callB (cr_sortedT rfl) (by rfl) zSo (by decide +kernel) (pa_cons (pe_callTy (cr_setOfT rfl hr.units) (by rfl) zSet (by decide +kernel) (pa_cons (pe_lc2 (own := [("row", 1), ("name", 2)]) (vs1 := [2]) (g := gName 1) (tt := tYes) (g1 := gName 2) (tt1 := tYes) (by rfl) scNi.nd (pi_list (pe_call CA.ok hr (by rfl) CA.mg CA.kp CA.bd .nil pass0 (pa_cons (pv 0) pa_nil))) (blkOk_by (own := [("row", 1), ("name", 2)]) (N := ["rows", "row", "name"]) (sc := defScope sNamesIn) (by decide +kernel)) (by decide)
      (fun _ _ _ _ _ => pg_name (i := 1) scNi.nd rfl (Or.inl rfl)) (fun _ _ _ _ _ => pts_nil) (fun _ _ _ _ _ => pi_no) (fun _ _ _ _ _ => pg_name (i := 2) scNi.nd rfl (Or.inl rfl)) (fun _ _ _ _ _ => pts_nil) (fun _ _ _ _ _ => pe_no)) pa_nil)) pa_nil))), ?_⟩
    refine ⟨_, rfl, r, rfl, hr0, fun p H1 s1 np e1 => ⟨p, rfl, ⟨[], SqL.of e1⟩, fun D hD => ⟨fun i _ H' => i = 0 ∧ H' = upd H1 D (.lst []), ⟨0, rfl, rfl⟩, fun i m H' hh => ?_⟩⟩⟩
    obtain ⟨rfl, rfl⟩ := hh
    refine .inl ⟨⟨[], SqL.of (by rw [upd_ne (ne_of_none e1 hD)]; exact e1), Nat.le_refl _⟩, ?_⟩
    refine ⟨D, ([] : List (Addr × List Int)), rfl, SqL.of upd_same, fun q hq => absurd hq List.not_mem_nil, (by show 0 < 64; decide), fun a L ha hL _ => ?_⟩
    obtain rfl : L = [] := List.eq_nil_iff_forall_not_mem.mpr fun q hq => absurd (hL q hq) List.not_mem_nil
    have s2 := upd_fresh (u := .lst []) s1 (s1.free hD)
    have s3 := upd_fresh (u := SetTO Pg w a []) s2 (s2.free ha)
    refine ⟨a, ([] : List (Addr × List Int)), 1, 1, rfl, upd_same, fun q hq => absurd hq List.not_mem_nil, Nat.le_refl _, fun q hq => absurd hq List.not_mem_nil, fun L' q pm _ _ _ hq => ?_⟩
    obtain rfl : L' = [] := List.Perm.eq_nil pm
    exact k q _ (upd_fresh s3 (s3.free hq)) (s3.free hq) upd_same
def spDone (x : List V) : Sp := fun vs H Q _ => ∃ (g r : Addr), vs = [.ref g, .ref r] ∧ H g = some (.lst x) ∧ H r = some (.lst []) ∧ ∀ H', Same H H' → Q .non H'
theorem scRm : FnScope ["given", "rows"] ["given", "rows"] (defScope sRoom) := ⟨rfl, rfl, rfl, by decide +kernel, rfl, by decide +kernel, by decide +kernel⟩
theorem ok_room {f fC fD fN : Addr} {fd fdC fdD fdN : FuncData} (F : Fun K "need_room" "need_room" sRoom f fd) (zLen : mg "len" = none) (zSet : mg "set" = none) (g1 : ∃ t, mg "MOST_ROWS" = some (.int 100 t)) (g2 : ∃ t, mg "MOST_DEPTH" = some (.int 10 t)) (g3 : ∃ t, mg "MOST_NAMES" = some (.int 8 t))
    (CC : Cal Pg w K mg base 2 "count" ["rows"] spZero fC fdC) (CD : Cal Pg w K mg base 1 "depth" ["rows"] spZero fD fdD) (CN : Cal Pg w K mg base 2 "names_in" ["rows"] spNew fN fdN) : FnOk Pg w K mg base CX0 3 f fd ["given", "rows"] (spDone [.str "a"]) := by
  obtain ⟨k1, g1⟩ := g1
  obtain ⟨k2, g2⟩ := g2
  obtain ⟨k3, g3⟩ := g3
  refine F.ok scRm (fun vs H Q E h => ?_) (fun cdv A outer s H vs Q E hr h => ?_)
  · obtain ⟨g, r, rfl, _⟩ := h
    rfl
  · obtain ⟨g, r, rfl, hg, hr0, k⟩ := h
    have hr1 : Room 1 (A.deeper (envOfC "need_room" (defScope sRoom) s.heap.objs.size f cdv)) := hr.mono (by decide)
    refine ⟨_, pss_cons (ps_if (pt_cmpR op_gt (pe_call CC.ok hr (by rfl) CC.mg CC.kp CC.bd .nil pass0 (pa_cons (pv 1) pa_nil)) (pe_glob (v := .int 100) (by rfl) g1 ⟨_, rfl⟩) (nomark _)) pss_no pss_nil)
      (pss_cons (ps_if (pt_cmpR op_gt (pe_call CD.ok hr1 (by rfl) CD.mg CD.kp CD.bd .nil pass0 (pa_cons (pv 1) pa_nil)) (pe_glob (v := .int 10) (by rfl) g2 ⟨_, rfl⟩) (nomark _)) pss_no pss_nil)
      (pss_one (ps_if (pt_cmpR op_gt (pe_lenSet (by rfl) (by rfl) zLen (by rfl) zSet (pe_lst (StX.pa_star (pv 0) (StX.pa_star (pe_call CN.ok hr (by rfl) CN.mg CN.kp CN.bd .nil pass0 (pa_cons (pv 1) pa_nil)) pa_nil)))) (pe_glob (v := .int 8) (by rfl) g3 ⟨_, rfl⟩) (nomark _)) pss_no pss_nil))), ?_⟩
    refine ⟨_, rfl, r, rfl, hr0, fun H1 s1 => ⟨_, _, rfl, rfl, _, rfl, ?_⟩⟩
    refine ite2 (fun z => by cases z) (fun _ => ?_)
    refine ⟨_, rfl, r, rfl, s1 _ _ hr0, fun H2 s2 => ⟨_, _, rfl, rfl, _, rfl, ?_⟩⟩
    refine ite2 (fun z => by cases z) (fun _ => ?_)
    have s12 := s1.trans s2
    refine ⟨_, rfl, g, [.str "a"], rfl, .inr (SqL.of (s12 _ _ hg)), _, rfl, r, rfl, s12 _ _ hr0, fun p H3 s3 np e3 => ⟨p, [], rfl, .inr (SqL.of e3), ?_⟩⟩
    refine ⟨(by show 1 ≤ sizeLine; decide), fun l hl => ?_⟩
    have s13 := s12.trans s3
    refine ⟨l, ["a"], rfl, .inl (SqL.of upd_same), Nat.le_refl _, _, _, rfl, rfl, _, rfl, ?_⟩
    refine ite2 (fun z => by cases z) (fun _ => ?_)
    exact k _ (upd_fresh s13 (s13.free hl))
theorem scSi : FnScope ["rows", "marks", "mark", "following"] ["rows"] (defScope sSingle) := ⟨rfl, rfl, rfl, by decide +kernel, rfl, by decide +kernel, by decide +kernel⟩
def spDone1 : Sp := fun vs H Q _ => ∃ (r : Addr), vs = [.ref r] ∧ H r = some (.lst []) ∧ ∀ H', Same H H' → Q .non H'
theorem ok_single {f fM : Addr} {fd fdM : FuncData} (F : Fun K "need_single_marks" "need_single_marks" sSingle f fd) (zSo : mg "sorted" = none) (zZip : mg "zip" = none) (CM : Cal Pg w K mg base 2 "marks_in" ["rows"] spNew fM fdM) : FnOk Pg w K mg base CX0 3 f fd ["rows"] spDone1 := by
  refine F.ok scSi (fun vs H Q E h => ?_) (fun cdv A outer s H vs Q E hr h => ?_)
  · obtain ⟨r, rfl, _⟩ := h
    rfl
  · obtain ⟨r, rfl, hr0, k⟩ := h
    refine ⟨_, pss_cons (ps_set (i := 1) scSi.nd rfl (Or.inl rfl) (pe_callB cr_sortedS (by rfl) zSo (by decide +kernel) (pa_cons (pe_call CM.ok hr (by rfl) CM.mg CM.kp CM.bd .nil pass0 (pa_cons (pv 0) pa_nil)) pa_nil)))
      (pss_one (ps_for PassesOwn.never rfl (pi_zip (by rfl) zZip (pa_cons (pv 1) (pa_cons (pe_slice sl_list (pv 1) (po_some pe_int) po_none) pa_nil))) (pg_tup (by rfl) (pgs_cons (pg_name (i := 2) scSi.nd rfl (Or.inl rfl)) (pgs_cons (pg_name (i := 3) scSi.nd rfl (Or.inl rfl)) pgs_nil))) pss_no)), ?_⟩
    refine ⟨_, rfl, r, rfl, hr0, fun p H1 s1 np e1 => ?_⟩
    refine ⟨p, [], rfl, SqL.of e1, by decide, fun ys q pm _ hq => ?_⟩
    obtain rfl : ys = [] := List.Perm.eq_nil pm
    have s2 := upd_fresh (u := .lst []) s1 (s1.free hq)
    refine ⟨_, rfl, _, rfl, _, rfl, q, [], rfl, SqL.of upd_same, fun u hu => ?_⟩
    have e2 : (upd H1 q (.lst [])) q = some (.lst []) := upd_same
    have s3 : Same H (upd (upd H1 q (.lst [])) u (.lst [])) := upd_fresh s2 (s2.free hu)
    have e3 : (upd (upd H1 q (.lst [])) u (.lst [])) q = some (.lst []) := upd_fresh (Same.refl _) hu _ _ e2
    refine ⟨q, u, [], [], rfl, SqL.of e3, SqL.of upd_same, ⟨fun i _ σ' H' => i = 0 ∧ σ' = _ ∧ H' = (upd (upd H1 q (.lst [])) u (.lst [])), ⟨0, rfl, rfl, rfl⟩, fun i m σ' H' hh => ?_⟩⟩
    obtain ⟨rfl, rfl, rfl⟩ := hh
    exact .inl ⟨⟨[], [], SqL.of e3, SqL.of upd_same, .inl (Nat.le_refl _)⟩, k _ s3⟩
end
/-- the places of a layout's and a body's defs -/
abbrev sLayInit : Stmt := inClass (top 48) 0
abbrev sPlace : Stmt := inClass (top 48) 1
abbrev sAddrs : Stmt := inClass (top 48) 6
abbrev sByMarks : Stmt := inClass (top 48) 8
abbrev sNeedLast : Stmt := top 56
abbrev sNeedLoops : Stmt := top 57
abbrev sBodyInit : Stmt := inClass (top 61) 0
/-- the class of layouts -/
structure LC (K : PySem.W.Frag) (CL : Addr) : Prop where
  cl : Cls K CL
  n1 : NoAttr K CL "_lists"
  n2 : NoAttr K CL "_rows"
/-- a layout of no rows at y -/
def Lay (CL : Addr) (H : Hp) (y : Addr) : Prop := ∃ (dy dl dr : Addr), H y = some (.ins CL dy [("_lists", .ref dl), ("_rows", .ref dr)]) ∧ H dr = some (.dK [])
theorem Lay.keep {CL y : Addr} {H H' : Hp} (l : Lay CL H y) (s : Same H H') : Lay CL H' y := by
  obtain ⟨dy, dl, dr, h1, h2⟩ := l
  exact ⟨dy, dl, dr, s _ _ h1, s _ _ h2⟩
section
variable {Pg : Program} {w : World} {K : PySem.W.Frag} {mg : Str → Option Value} {base : Heap}
theorem scAs : FnScope ["self"] ["self"] (defScope sAddrs) := ⟨rfl, rfl, rfl, by decide +kernel, rfl, by decide +kernel, by decide +kernel⟩
def spLayL (CL : Addr) : Sp := fun vs H Q _ => ∃ (y : Addr), vs = [.ref y] ∧ Lay CL H y ∧ ∀ (p : Addr) (H' : Hp), Same H H' → H p = none → H' p = some (.lst []) → Q (.ref p) H'
theorem ok_addrs {f CL : Addr} {fd : FuncData} (F : Fun K "addresses" "Layout.addresses" sAddrs f fd) (zSo : mg "sorted" = none) (T : LC K CL) : FnOk Pg w K mg base CX0 1 f fd ["self"] (spLayL CL) := by
  refine F.ok scAs (fun vs H Q E h => ?_) (fun cdv A outer s H vs Q E hr h => ?_)
  · obtain ⟨y, rfl, _⟩ := h
    rfl
  · obtain ⟨y, rfl, ⟨dy, dl, dr, h1, h2⟩, k⟩ := h
    refine ⟨_, pss_one (ps_ret (pe_callB (call_sortedD rfl) (by rfl) zSo (by decide +kernel) (pa_cons (pe_fld (pv 0) rfl) pa_nil))), ?_⟩
    refine ⟨_, rfl, y, CL, dy, _, _, rfl, h1, T.cl, T.n2, rfl, ?_⟩
    refine ⟨dr, [], [], rfl, .of h2, rfl, by decide, fun ys p pm _ hp => ?_⟩
    obtain rfl : ys = [] := List.Perm.eq_nil pm
    exact k p _ (upd_fresh (Same.refl H) hp) hp upd_same
theorem scBm : FnScope ["self", "found", "address", "mark"] ["self"] (defScope sByMarks) := ⟨rfl, rfl, rfl, by decide +kernel, rfl, by decide +kernel, by decide +kernel⟩
def spLayD (CL : Addr) : Sp := fun vs H Q _ => ∃ (y : Addr), vs = [.ref y] ∧ Lay CL H y ∧ ∀ (p : Addr) (H' : Hp), Same H H' → Q (.ref p) H'
theorem ok_byMarks {f fA CL : Addr} {fd fdA : FuncData} (F : Fun K "by_marks" "Layout.by_marks" sByMarks f fd) (T : LC K CL) (M : Meth K CL "addresses" fA) (FA : FnOk Pg w K mg base CX0 1 fA fdA ["self"] (spLayL CL)) (bA : Binds K fdA ["self"] []) : FnOk Pg w K mg base CX0 2 f fd ["self"] (spLayD CL) := by
  refine F.ok scBm (fun vs H Q E h => ?_) (fun cdv A outer s H vs Q E hr h => ?_)
  · obtain ⟨y, rfl, _⟩ := h
    rfl
  · obtain ⟨y, rfl, lay, k⟩ := h
    refine ⟨_, pss_cons (ps_set (i := 1) scBm.nd rfl (Or.inl rfl) pe_dnewK) (pss_cons (ps_for PassesOwn.never rfl (pi_list (pe_meth0 (pv 0) T.cl M FA hr bA .nil pass0)) (pg_name (i := 2) scBm.nd rfl (Or.inl rfl)) pss_no) (pss_one (ps_ret (pv 1)))), ?_⟩
    intro d hd
    have s1 := upd_fresh (u := .dK []) (Same.refl H) hd
    have lay1 := lay.keep s1
    obtain ⟨dy, dl, dr, h1, h2⟩ := id lay1
    refine ⟨_, rfl, y, dy, _, rfl, h1, rfl, ?_⟩
    refine ⟨y, rfl, lay1, fun p H2 s2 np e2 => ⟨p, rfl, ⟨[], SqL.of e2⟩, ⟨fun i _ σ' H' => i = 0 ∧ σ' = _ ∧ H' = H2, ⟨0, rfl, rfl, rfl⟩, fun i m σ' H' hh => ?_⟩⟩⟩
    obtain ⟨rfl, rfl, rfl⟩ := hh
    exact .inl ⟨⟨[], SqL.of e2, Nat.le_refl _⟩, _, rfl, k d H' (s1.trans s2)⟩
theorem scLa : FnScope ["layout", "address", "behind_it"] ["layout"] (defScope sNeedLast) := ⟨rfl, rfl, rfl, by decide +kernel, rfl, by decide +kernel, by decide +kernel⟩
theorem scLo : FnScope ["layout", "address"] ["layout"] (defScope sNeedLoops) := ⟨rfl, rfl, rfl, by decide +kernel, rfl, by decide +kernel, by decide +kernel⟩
def spLayN (CL : Addr) : Sp := fun vs H Q _ => ∃ (y : Addr), vs = [.ref y] ∧ Lay CL H y ∧ ∀ (H' : Hp), Same H H' → Q .non H'
theorem ok_needLast {f fA CL : Addr} {fd fdA : FuncData} (F : Fun K "need_last" "need_last" sNeedLast f fd) (T : LC K CL) (M : Meth K CL "addresses" fA) (FA : FnOk Pg w K mg base CX0 1 fA fdA ["self"] (spLayL CL)) (bA : Binds K fdA ["self"] []) : FnOk Pg w K mg base CX0 2 f fd ["layout"] (spLayN CL) := by
  refine F.ok scLa (fun vs H Q E h => ?_) (fun cdv A outer s H vs Q E hr h => ?_)
  · obtain ⟨y, rfl, _⟩ := h
    rfl
  · obtain ⟨y, rfl, lay, k⟩ := h
    refine ⟨_, pss_one (ps_for PassesOwn.never rfl (pi_list (pe_meth0 (pv 0) T.cl M FA hr bA .nil pass0)) (pg_name (i := 1) scLa.nd rfl (Or.inl rfl)) pss_no), ?_⟩
    obtain ⟨dy, dl, dr, h1, h2⟩ := id lay
    refine ⟨_, rfl, y, dy, _, rfl, h1, rfl, ?_⟩
    refine ⟨y, rfl, lay, fun p H2 s2 np e2 => ⟨p, rfl, ⟨[], SqL.of e2⟩, ⟨fun i _ σ' H' => i = 0 ∧ σ' = _ ∧ H' = H2, ⟨0, rfl, rfl, rfl⟩, fun i m σ' H' hh => ?_⟩⟩⟩
    obtain ⟨rfl, rfl, rfl⟩ := hh
    exact .inl ⟨⟨[], SqL.of e2, Nat.le_refl _⟩, k H' s2⟩
theorem ok_needLoops {f fA CL : Addr} {fd fdA : FuncData} (F : Fun K "need_loops" "need_loops" sNeedLoops f fd) (T : LC K CL) (M : Meth K CL "addresses" fA) (FA : FnOk Pg w K mg base CX0 1 fA fdA ["self"] (spLayL CL)) (bA : Binds K fdA ["self"] []) : FnOk Pg w K mg base CX0 2 f fd ["layout"] (spLayN CL) := by
  refine F.ok scLo (fun vs H Q E h => ?_) (fun cdv A outer s H vs Q E hr h => ?_)
  · obtain ⟨y, rfl, _⟩ := h
    rfl
  · obtain ⟨y, rfl, lay, k⟩ := h
    refine ⟨_, pss_one (ps_for PassesOwn.never rfl (pi_list (pe_meth0 (pv 0) T.cl M FA hr bA .nil pass0)) (pg_name (i := 1) scLo.nd rfl (Or.inl rfl)) pss_no), ?_⟩
    obtain ⟨dy, dl, dr, h1, h2⟩ := id lay
    refine ⟨_, rfl, y, dy, _, rfl, h1, rfl, ?_⟩
    refine ⟨y, rfl, lay, fun p H2 s2 np e2 => ⟨p, rfl, ⟨[], SqL.of e2⟩, ⟨fun i _ σ' H' => i = 0 ∧ σ' = _ ∧ H' = H2, ⟨0, rfl, rfl, rfl⟩, fun i m σ' H' hh => ?_⟩⟩⟩
    obtain ⟨rfl, rfl, rfl⟩ := hh
    exact .inl ⟨⟨[], SqL.of e2, Nat.le_refl _⟩, k H' s2⟩
/-! ### a layout is made -/
def spPlace (CL : Addr) : Sp := fun vs H Q _ => ∃ (y dy dl dr pt rt : Addr), vs = [.ref y, .ref pt, .ref rt] ∧ H y = some (.ins CL dy [("_lists", .ref dl), ("_rows", .ref dr)]) ∧ H dl = some (.dT []) ∧ H pt = some (.tup []) ∧ H rt = some (.tup []) ∧
  ∀ H' : Hp, (∀ b o, b ≠ dl → H b = some o → H' b = some o) → Q .non H'
theorem scLi2 : FnScope ["self", "rows"] ["self", "rows"] (defScope sLayInit) := ⟨rfl, rfl, rfl, by decide +kernel, rfl, by decide +kernel, by decide +kernel⟩
def spLayI (CL : Addr) : Sp := fun vs H Q _ => ∃ (y dy rt : Addr), vs = [.ref y, .ref rt] ∧ H y = some (.ins CL dy []) ∧ H dy = some (.own y) ∧ dy ≠ y ∧ H rt = some (.tup []) ∧ ∀ H' : Hp, (∀ b o, b ≠ y → H b = some o → H' b = some o) → Lay CL H' y → Q .non H'
theorem ok_layInit {f fP CL : Addr} {fd fdP : FuncData} (F : Fun K "__init__" "Layout.__init__" sLayInit f fd) (T : LC K CL) (zT : mg "tuple" = none) (M : Meth K CL "_place" fP) (FP : FnOk Pg w K mg base CX0 1 fP fdP ["self", "path", "rows"] (spPlace CL)) (bP : Binds K fdP ["self", "path", "rows"] []) :
    FnOk Pg w K mg base CX0 2 f fd ["self", "rows"] (spLayI CL) := by
  refine F.ok scLi2 (fun vs H Q E h => ?_) (fun cdv A outer s H vs Q E hr h => ?_)
  · obtain ⟨y, dy, rt, rfl, _⟩ := h
    rfl
  · obtain ⟨y, dy, rt, rfl, hy, hdy, ne, hrt, k⟩ := h
    refine ⟨_, pss_cons (ps_fld (pv 0) pe_dnewT rfl) (pss_cons (ps_fld (pv 0) pe_dnewK rfl) (pss_one (ps_expr (pe_meth (pv 0) T.cl M FP hr bP .nil pass0 (pa_cons (pe_tup pa_nil) (pa_cons (pe_callTy call_tuple_of (by rfl) zT (by decide +kernel) (pa_cons (pv 1) pa_nil)) pa_nil)))))), ?_⟩
    intro dl hdl
    have n1 : y ≠ dl := ne_of_none hy hdl
    have e1 : (upd H dl (.dT [])) y = some (.ins CL dy []) := by rw [upd_ne n1]; exact hy
    refine ⟨_, rfl, y, CL, dy, [], rfl, e1, T.cl, T.n1, by decide, ?_⟩
    intro dr hdr
    have ey : (upd (upd H dl (.dT [])) y (.ins CL dy (putF "_lists" (.ref dl) []))) y = some (.ins CL dy (putF "_lists" (.ref dl) [])) := upd_same
    have n2 : y ≠ dr := ne_of_none ey hdr
    have el : (upd (upd H dl (.dT [])) y (.ins CL dy (putF "_lists" (.ref dl) []))) dl = some (.dT []) := by
      rw [upd_ne n1.symm]
      exact upd_same
    have n3 : dl ≠ dr := ne_of_none el hdr
    refine ⟨_, rfl, y, CL, dy, putF "_lists" (.ref dl) [], rfl, (by rw [upd_ne n2]; exact upd_same), T.cl, T.n2, (by show 1 < 1000; decide), ?_⟩
    have er : ∀ b o, b ≠ y → b ≠ dl → b ≠ dr → H b = some o → (upd (upd (upd (upd H dl (.dT [])) y (.ins CL dy (putF "_lists" (.ref dl) []))) dr (.dK [])) y (.ins CL dy (putF "_rows" (.ref dr) (putF "_lists" (.ref dl) [])))) b = some o := fun b o h1 h2 h3 e => by
      rw [upd_ne h1, upd_ne h3, upd_ne h1, upd_ne h2]
      exact e
    have fy : (upd (upd (upd (upd H dl (.dT [])) y (.ins CL dy (putF "_lists" (.ref dl) []))) dr (.dK [])) y (.ins CL dy (putF "_rows" (.ref dr) (putF "_lists" (.ref dl) [])))) y = some (.ins CL dy [("_lists", .ref dl), ("_rows", .ref dr)]) := upd_same
    have fl : (upd (upd (upd (upd H dl (.dT [])) y (.ins CL dy (putF "_lists" (.ref dl) []))) dr (.dK [])) y (.ins CL dy (putF "_rows" (.ref dr) (putF "_lists" (.ref dl) [])))) dl = some (.dT []) := by
      rw [upd_ne n1.symm, upd_ne n3]
      exact el
    have fr : (upd (upd (upd (upd H dl (.dT [])) y (.ins CL dy (putF "_lists" (.ref dl) []))) dr (.dK [])) y (.ins CL dy (putF "_rows" (.ref dr) (putF "_lists" (.ref dl) [])))) dr = some (.dK []) := by
      rw [upd_ne n2.symm]
      exact upd_same
    have n4 : rt ≠ y := ne_of hrt hy (by intro z; cases z)
    have n5 : rt ≠ dl := ne_of_none hrt hdl
    have hdr0 : H dr = none := by
      rw [upd_ne n2.symm, upd_ne n3.symm] at hdr
      exact hdr
    have n6 : rt ≠ dr := ne_of_none hrt hdr0
    have ft := er rt _ n4 n5 n6 hrt
    generalize upd (upd (upd (upd H dl (.dT [])) y (.ins CL dy (putF "_lists" (.ref dl) []))) dr (.dK [])) y (.ins CL dy (putF "_rows" (.ref dr) (putF "_lists" (.ref dl) []))) = G at er fy fl fr ft
    refine ⟨_, rfl, y, dy, _, rfl, fy, rfl, ?_⟩
    refine ⟨by decide, fun pt hpt => ?_⟩
    have g1 := upd_fresh (u := .tup []) (Same.refl G) hpt
    refine ⟨_, rfl, rt, [], rfl, .inr ⟨SqT.of (g1 _ _ ft), ?_⟩⟩
    refine ⟨y, dy, dl, dr, pt, rt, rfl, g1 _ _ fy, g1 _ _ fl, upd_same, g1 _ _ ft, fun H' hk => ?_⟩
    refine k H' (fun b o h1 e => ?_) ⟨dy, dl, dr, hk _ _ n1 (g1 _ _ fy), hk _ _ n3.symm (g1 _ _ fr)⟩
    have n7 : b ≠ dl := ne_of_none e hdl
    have n8 : b ≠ dr := ne_of_none e hdr0
    exact hk b o n7 (g1 _ _ (er b o h1 n7 n8 e))
end
section
variable {Pg : Program} {w : World} {K : PySem.W.Frag} {mg : Str → Option Value} {base : Heap}
/-- the class of bodies has none of these names -/
structure BN (K : PySem.W.Frag) (C : Addr) : Prop where
  cl : Cls K C
  n1 : NoAttr K C "_given"
  n2 : NoAttr K C "_rows"
  n3 : NoAttr K C "_layout"
  n4 : NoAttr K C "_addresses"
  n5 : NoAttr K C "_at_marks"
abbrev NB : List Str := ["self", "given", "rows", "row"]
theorem scB2 : FnScope NB ["self", "given", "rows"] (defScope sBodyInit) := ⟨rfl, rfl, rfl, by decide +kernel, rfl, by decide +kernel, by decide +kernel⟩
theorem Lay.put {CL y x C dx : Addr} {fs gs : List (Str × V)} {H : Hp} (l : Lay CL H y) (hx : H x = some (.ins C dx fs)) (n : y ≠ x) : Lay CL (upd H x (.ins C dx gs)) y := by
  obtain ⟨dy, dl, dr, h1, h2⟩ := l
  exact ⟨dy, dl, dr, by rw [upd_ne n]; exact h1, by rw [upd_ne (ne_of h2 hx (by intro z; cases z))]; exact h2⟩
theorem ok_bodyInit {f f1 f2 f3 f4 fL fNl fNo fA fM C CL : Addr} {fd d1 d2 d3 d4 dL dNl dNo dA dM : FuncData} (F : Fun K "__init__" "Body.__init__" sBodyInit f fd) (T : BN K C) (TL : LC K CL) (zT : mg "tuple" = none) (zSo : mg "sorted" = none)
    (C1 : Cal Pg w K mg base 3 "are_given" ["thing"] (spYes [.str "a"]) f1 d1) (C2 : Cal Pg w K mg base 2 "are_rows" ["thing"] (spYes []) f2 d2) (C3 : Cal Pg w K mg base 3 "need_room" ["given", "rows"] (spDone [.str "a"]) f3 d3) (C4 : Cal Pg w K mg base 3 "need_single_marks" ["rows"] spDone1 f4 d4)
    (gL : mg "Layout" = some (.ref CL)) (ML : Mk K CL fL) (FL : FnOk Pg w K mg base CX0 2 fL dL ["self", "rows"] (spLayI CL)) (bL : Binds K dL ["self", "rows"] []) (C5 : Cal Pg w K mg base 2 "need_last" ["layout"] (spLayN CL) fNl dNl) (C6 : Cal Pg w K mg base 2 "need_loops" ["layout"] (spLayN CL) fNo dNo)
    (MA : Meth K CL "addresses" fA) (FA : FnOk Pg w K mg base CX0 1 fA dA ["self"] (spLayL CL)) (bA : Binds K dA ["self"] []) (MM : Meth K CL "by_marks" fM) (FM : FnOk Pg w K mg base CX0 2 fM dM ["self"] (spLayD CL)) (bM : Binds K dM ["self"] []) :
    FnOk Pg w K mg base CX0 4 f fd ["self", "given", "rows"] (spBody C) := by
  refine F.ok scB2 (fun vs H Q E h => ?_) (fun cdv A outer s H vs Q E hr h => ?_)
  · obtain ⟨x, dx, g, r, rfl, _⟩ := h
    rfl
  · obtain ⟨x, dx, g, r, rfl, hx, hdx, ne, hg, hr0, ng, nr, k⟩ := h
    have hr1 : Room 1 (A.deeper (envOfC "Body.__init__" (defScope sBodyInit) s.heap.objs.size f cdv)) := hr.mono (by decide)
    have hr2 : Room 2 (A.deeper (envOfC "Body.__init__" (defScope sBodyInit) s.heap.objs.size f cdv)) := hr.mono (by decide)
    refine ⟨_, pss_cons (ps_if (pt_not (pt_val (pe_call C1.ok hr (by rfl) C1.mg C1.kp C1.bd .nil pass0 (pa_cons (pv 1) pa_nil)))) pss_no pss_nil)
      (pss_cons (ps_if (pt_not (pt_val (pe_call C2.ok hr2 (by rfl) C2.mg C2.kp C2.bd .nil pass0 (pa_cons (pv 2) pa_nil)))) pss_no pss_nil)
      (pss_cons (ps_expr (pe_call C3.ok hr (by rfl) C3.mg C3.kp C3.bd .nil pass0 (pa_cons (pv 1) (pa_cons (pv 2) pa_nil))))
      (pss_cons (ps_expr (pe_call C4.ok hr (by rfl) C4.mg C4.kp C4.bd .nil pass0 (pa_cons (pv 2) pa_nil)))
      (pss_cons (ps_fld (pv 0) (pe_callTy call_tuple_of (by rfl) zT (by decide +kernel) (pa_cons (pe_callB cr_sortedS (by rfl) zSo (by decide +kernel) (pa_cons (pv 1) pa_nil)) pa_nil)) rfl)
      (pss_cons (ps_fld (pv 0) (pe_callTy call_tuple_of (by rfl) zT (by decide +kernel) (pa_cons (pe_lc (own := [("row", 3)]) (g := gName 3) (tt := tYes) (by rfl) scB2.nd (pi_list (pv 2)) (blkOk_by (own := [("row", 3)]) (N := NB) (sc := defScope sBodyInit) (by decide +kernel)) (fun _ _ _ _ _ => pg_name (i := 3) scB2.nd rfl (Or.inl rfl)) (fun _ _ _ _ _ => pts_nil) (fun _ _ _ _ _ => pe_no)) pa_nil)) rfl)
      (pss_cons (ps_fld (pv 0) (pe_make ML FL hr (by rfl) gL bL .nil pass0 (pa_cons (pe_fld (pv 0) rfl) pa_nil)) rfl)
      (pss_cons (ps_expr (pe_call C5.ok hr2 (by rfl) C5.mg C5.kp C5.bd .nil pass0 (pa_cons (pe_fld (pv 0) rfl) pa_nil)))
      (pss_cons (ps_expr (pe_call C6.ok hr2 (by rfl) C6.mg C6.kp C6.bd .nil pass0 (pa_cons (pe_fld (pv 0) rfl) pa_nil)))
      (pss_cons (ps_fld (pv 0) (pe_meth0 (pe_fld (pv 0) rfl) TL.cl MA FA hr1 bA .nil pass0) rfl)
      (pss_one (ps_fld (pv 0) (pe_meth0 (pe_fld (pv 0) rfl) TL.cl MM FM hr2 bM .nil pass0) rfl))))))))))), ?_⟩
    refine ⟨_, rfl, g, rfl, hg, ng, fun H1 s1 => ⟨_, rfl, ?_⟩⟩
    refine ite2 (fun z => by cases z) (fun _ => ?_)
    refine ⟨_, rfl, r, rfl, s1 _ _ hr0, nr, fun H2 s2 => ⟨_, rfl, ?_⟩⟩
    refine ite2 (fun z => by cases z) (fun _ => ?_)
    have s12 := s1.trans s2
    refine ⟨_, rfl, _, rfl, g, r, rfl, s12 _ _ hg, s12 _ _ hr0, fun H3 s3 => ?_⟩
    have s13 := s12.trans s3
    refine ⟨_, rfl, r, rfl, s13 _ _ hr0, fun H4 s4 => ?_⟩
    have s14 := s13.trans s4
    -- the given names
    refine ⟨_, rfl, g, ["a"], rfl, SqL.of (s14 _ _ hg), by decide, fun ys q pm _ hq => ?_⟩
    have s15 := upd_fresh (u := .lst (ys.map V.str)) s14 (s14.free hq)
    refine ⟨q, _, rfl, .inl ⟨SqL.of upd_same, fun t ht => ?_⟩⟩
    have s16 := upd_fresh (u := .tup (ys.map V.str)) s15 (s15.free ht)
    have x6 := s16 _ _ hx
    have r6 := s16 _ _ hr0
    generalize upd (upd H4 q (.lst (ys.map V.str))) t (.tup (ys.map V.str)) = G1 at s16 x6 r6
    refine ⟨_, rfl, x, C, dx, [], rfl, x6, T.cl, T.n1, by decide, ?_⟩
    have nrx : r ≠ x := ne_of hr0 hx (by intro z; cases z)
    have r7 : (upd G1 x (.ins C dx (putF "_given" (.ref t) []))) r = some (.lst []) := by rw [upd_ne nrx]; exact r6
    have x7 : (upd G1 x (.ins C dx (putF "_given" (.ref t) []))) x = some (.ins C dx [("_given", .ref t)]) := upd_same
    generalize upd G1 x (.ins C dx (putF "_given" (.ref t) [])) = G2 at r7 x7
    -- the rows
    refine ⟨_, rfl, r, rfl, ⟨[], SqL.of r7⟩, fun D hD => lc_mf (te := fun _ _ _ => False) (tt := tYes) (n := 0) (item := fun i => ([] : List V).getD i .non) (keep := fun _ => true) (val := fun i => .non) hD (by decide) (walks_list (xs := []) (SqL.of r7)) (fun i => rfl) (fun i H4 Z hi _ _ => absurd hi (Nat.not_lt_zero i)) (fun i H4 Z hi _ _ _ => absurd hi (Nat.not_lt_zero i)) (fun G3 s23 hD3 => ?_)⟩
    refine ⟨D, [], rfl, .inl ⟨SqL.of hD3, fun rt hrt => ?_⟩⟩
    have x3 := s23 _ _ x7
    have nxt : x ≠ rt := ne_of_none x3 hrt
    have x4 : (upd G3 rt (.tup [])) x = some (.ins C dx [("_given", .ref t)]) := by rw [upd_ne nxt]; exact x3
    have t4 : (upd G3 rt (.tup [])) rt = some (.tup []) := upd_same
    generalize upd G3 rt (.tup []) = G4 at x4 t4
    refine ⟨_, rfl, x, C, dx, _, rfl, x4, T.cl, T.n2, (by show 1 < 1000; decide), ?_⟩
    have x5 : (upd G4 x (.ins C dx (putF "_rows" (.ref rt) [("_given", .ref t)]))) x = some (.ins C dx [("_given", .ref t), ("_rows", .ref rt)]) := upd_same
    have t5 : (upd G4 x (.ins C dx (putF "_rows" (.ref rt) [("_given", .ref t)]))) rt = some (.tup []) := by rw [upd_ne nxt.symm]; exact t4
    generalize upd G4 x (.ins C dx (putF "_rows" (.ref rt) [("_given", .ref t)])) = G5 at x5 t5
    -- the layout
    refine ⟨_, rfl, x, C, dx, _, _, rfl, x5, T.cl, T.n2, rfl, ?_⟩
    intro y dy hy hdy ney
    have nxy : x ≠ y := ne_of_none x5 hy
    have nxd : x ≠ dy := ne_of_none x5 hdy
    have nty : rt ≠ y := ne_of_none t5 hy
    have ntd : rt ≠ dy := ne_of_none t5 hdy
    refine ⟨y, dy, rt, rfl, upd_same, by rw [upd_ne ney, upd_same], ney, by rw [upd_ne nty, upd_ne ntd]; exact t5, fun G6 hk lay => ⟨rfl, ?_⟩⟩
    have x6' : G6 x = some (.ins C dx [("_given", .ref t), ("_rows", .ref rt)]) := hk x _ nxy (by rw [upd_ne nxy, upd_ne nxd]; exact x5)
    refine ⟨_, rfl, x, C, dx, _, rfl, x6', T.cl, T.n3, (by show 2 < 1000; decide), ?_⟩
    have lay7 := lay.put (gs := putF "_layout" (.ref y) [("_given", .ref t), ("_rows", .ref rt)]) x6' nxy.symm
    have x7' : (upd G6 x (.ins C dx (putF "_layout" (.ref y) [("_given", .ref t), ("_rows", .ref rt)]))) x = some (.ins C dx [("_given", .ref t), ("_rows", .ref rt), ("_layout", .ref y)]) := upd_same
    generalize upd G6 x (.ins C dx (putF "_layout" (.ref y) [("_given", .ref t), ("_rows", .ref rt)])) = G7 at lay7 x7'
    refine ⟨_, rfl, x, C, dx, _, _, rfl, x7', T.cl, T.n3, rfl, y, rfl, lay7, fun G8 s8 => ?_⟩
    have x8 := s8 _ _ x7'
    have lay8 := lay7.keep s8
    refine ⟨_, rfl, x, C, dx, _, _, rfl, x8, T.cl, T.n3, rfl, y, rfl, lay8, fun G9 s9 => ?_⟩
    have x9 := s9 _ _ x8
    have lay9 := lay8.keep s9
    obtain ⟨dy9, dl9, dr9, y9, z9⟩ := id lay9
    refine ⟨_, rfl, x, C, dx, _, _, rfl, x9, T.cl, T.n3, rfl, y, dy9, _, rfl, y9, rfl, y, rfl, lay9, fun p G10 s10 np e10 => ?_⟩
    have x10 := s10 _ _ x9
    have lay10 := lay9.keep s10
    refine ⟨_, rfl, x, C, dx, _, rfl, x10, T.cl, T.n4, (by show 3 < 1000; decide), ?_⟩
    have lay11 := lay10.put (gs := putF "_addresses" (.ref p) [("_given", .ref t), ("_rows", .ref rt), ("_layout", .ref y)]) x10 nxy.symm
    have x11 : (upd G10 x (.ins C dx (putF "_addresses" (.ref p) [("_given", .ref t), ("_rows", .ref rt), ("_layout", .ref y)]))) x = some (.ins C dx [("_given", .ref t), ("_rows", .ref rt), ("_layout", .ref y), ("_addresses", .ref p)]) := upd_same
    generalize upd G10 x (.ins C dx (putF "_addresses" (.ref p) [("_given", .ref t), ("_rows", .ref rt), ("_layout", .ref y)])) = G11 at lay11 x11
    obtain ⟨dy11, dl11, dr11, y11, z11⟩ := id lay11
    refine ⟨_, rfl, x, C, dx, _, _, rfl, x11, T.cl, T.n3, rfl, y, dy11, _, rfl, y11, rfl, y, rfl, lay11, fun m G12 s12' => ?_⟩
    have x12 := s12' _ _ x11
    refine ⟨_, rfl, x, C, dx, _, rfl, x12, T.cl, T.n5, (by show 4 < 1000; decide), ?_⟩
    exact k _ _ upd_same
end
/-! ### enumerate(t), t the empty tuple -/
namespace En
open AutoSeq1 (wpAny_loadPart')
theorem made (t : Addr) (n : Nat) (dd : Option Addr) (ss : Array (Option Value)) :
    Meets (Builtin.«enumerate.__new__» ⟨[.type "enumerate", .ref t], []⟩) fun _ R s =>
      s.heap.get? t = some { cls := .type "tuple", dict := dd, data := .seq #[] n, slots := ss } ∧
        R (.ok (.ret (.ref (s.heap.push { cls := .type "tuple_iterator", data := .fields #[.ref t, .int 0 0] }).objs.size)))
          { s with heap := (s.heap.push { cls := .type "tuple_iterator", data := .fields #[.ref t, .int 0 0] }).push { cls := .type "enumerate", data := .fields #[.none, .bool false, .ref s.heap.objs.size, rawInt 0, .none, .none] } } := by
  refine .of_wp fun P w A R s hh => ?_
  obtain ⟨ht, go⟩ := hh
  obtain ⟨hp, gs, dr, tk, os⟩ := s
  have sub := sub_enumerate
  have isT : Heap.IsTuple (Shared.heap ⟨hp, gs, dr, tk, os⟩) t #[] := ⟨_, ht, rfl, n, rfl⟩
  wp_walk using wpAny_loadPart' ht
  refine wpAny_stack_any fun stk => wpAny_pure ?_
  split
  · rename_i cc _ _ _ _ _
    cases (cc == Value.type "enumerate") <;> (wp_walk using wpAny_loadPart' ht, wpAny_pyIter_tuple isT; exact ⟨_, rfl, go⟩)
  · wp_walk using wpAny_loadPart' ht, wpAny_pyIter_tuple isT
    exact ⟨_, rfl, go⟩
section
variable {P : Program} {w : World} {A : Around} {E : Value → Shared → Prop} {s : Shared}
theorem call_made {t : Addr} {Q : Value → Shared → Prop} (isT : s.heap.IsTuple t #[])
    (go : ∀ h2, IsEnum h2 (s.heap.objs.size + 1) s.heap.objs.size 0 .none → h2.IsTupleIter s.heap.objs.size t 0 → (∀ b o, s.heap.get? b = some o → h2.get? b = some o) → Q (.ref (s.heap.objs.size + 1)) { s with heap := h2 }) :
    wpAny (model P w) A (call (.type "enumerate") [.ref t]) Q E s := by
  obtain ⟨⟨kc, dd, da, ss⟩, at_, ek, n, ed⟩ := isT
  simp only at ek ed
  cases ek
  cases ed
  refine callType_new F.called_enumerate (by decide) (F.typeCall_enumerate_1 _) (F.newCall_enumerate_1 _) (fun ob => F.args_object_init_2 ob _) F.entry_enumerate_new (made t n dd ss) ⟨at_, ?_⟩
  have sz : (s.heap.push { cls := .type "tuple_iterator", data := .fields #[.ref t, .int 0 0] }).objs.size = s.heap.objs.size + 1 := Heap.size_push ..
  show _ ∧ _
  rw [sz]
  have isE := Heap.get?_push_size (s.heap.push { cls := .type "tuple_iterator", data := .fields #[.ref t, .int 0 0] }) (o := { cls := .type "enumerate", data := .fields #[.none, .bool false, .ref s.heap.objs.size, rawInt 0, .none, .none] }) rfl
  rw [sz] at isE
  have isI := Heap.get?_push_size s.heap (o := { cls := .type "tuple_iterator", data := .fields #[.ref t, .int 0 0] }) rfl
  exact ⟨⟨_, isE, rfl⟩, go _ isE ⟨_, Heap.get?_push_of_some _ isI, rfl, rfl⟩ fun b o e => Heap.get?_push_of_some _ (Heap.get?_push_of_some _ e)⟩
theorem next_over {it t : Addr} {Q : Value → Shared → Prop} (calm : A.handled = none) (isI : s.heap.IsTupleIter it t 0) (isT : s.heap.IsTuple t #[])
    (out : ∀ h2 e, Heap.ExtBut it s.heap h2 → (∃ o, h2.get? e = some o ∧ o.cls = .type "StopIteration") → E (.ref e) { s with heap := h2 }) :
    wpAny (model P w) A (Builtin.SmallTypes.nextOf (.ref it)) Q E s := by
  obtain ⟨oi, ai, ci, di⟩ := id isI
  obtain ⟨ot, at_, _, n, dt⟩ := isT
  have ty := isI.typeIs
  unfold Builtin.SmallTypes.nextOf
  refine wpAny_bind (wpAny_callSpecial?_slot (name := Str.ofString "__next__") ty F.slot_tuple_iterator_next ?_)
  refine wpAny_call_entry F.slot_tuple_iterator_next ty F.entry_tuple_iterator_next ?_ (F.args_tuple_iterator_next_1 _)
  show wpAny (model P w) _ (field (.ref it) 0 >>= _) _ _ s
  refine wpAny_bind (wpAny_field ai di (x := .ref t) rfl ?_)
  show wpAny (model P w) _ (if (Value.ref t == Value.none) = true then _ else _) _ _ s
  refine wpAny_ite_false (c := (Value.ref t == Value.none) = true) (decide_eq_false Bool.false_ne_true) ?_
  show wpAny (model P w) _ (field (.ref it) 1 >>= _) _ _ s
  refine wpAny_bind (wpAny_field ai di (x := .int 0 0) rfl ?_)
  show wpAny (model P w) _ (seqItems? (.ref t) >>= _) _ _ s
  refine wpAny_bind (wpAny_seqItems at_ dt ?_)
  have none0 : (#[] : Array Value)[(0 : Int).toNat]? = none := rfl
  simp only [none0]
  refine wpAny_bind (wpAny_rule (wpAny_bind (wpAny_setField ai di (by simp) ?_)))
  show wpAny (model P w) _ (newExc (.type "StopIteration") [] >>= _) _ _ _
  refine wpAny_bind ?_
  simp only [newExc, newTuple]
  refine wpAny_bind (wpAny_newObj_type ?_ (by size_fits))
  refine wpAny_bind (m := firstArgMember _ _) (wpAny_of_eq (a := Value.none) (by simp only [firstArgMember]; rfl) ?_)
  refine wpAny_newObj_type ?_ (by size_fits)
  simp only [raiseNew]
  refine wpAny_bind (wpAny_handled ?_)
  rw [show A.in1.handled = none from calm]
  refine wpAny_bind (wpAny_pure (wpAny_throw ?_))
  exact out _ _ (((Heap.SameBut.update ..).extBut.push _).push _) ⟨_, Heap.get?_push_size _ rfl, rfl⟩
theorem over {e it t : Addr} {old : Value} {Q : Option Value → Shared → Prop} (calm : A.handled = none) (isE : IsEnum s.heap e it 0 old) (isI : s.heap.IsTupleIter it t 0) (isT : s.heap.IsTuple t #[])
    (go : ∀ h2, Heap.ExtBut it s.heap h2 → Q none { s with heap := h2 }) : wpAny (model P w) A (pyNext (.ref e)) Q E s := by
  have ty : s.TypeIs (.ref e) "enumerate" := ⟨_, isE, rfl⟩
  unfold pyNext
  refine wpAny_bind (wpAny_attempt (wpAny_callSpecial?_slot (name := Str.ofString "__next__") ty F.slot_enumerate_next ?_))
  refine wpAny_call_entry F.slot_enumerate_next ty F.entry_enumerate_next ?_ (F.args_enumerate_next_1 _)
  show wpAny (model P w) _ (field (.ref e) 2 >>= _) _ _ _
  refine wpAny_bind (wpAny_field isE rfl (x := .ref it) rfl (wpAny_bind (next_over calm isI isT fun h2 x ext stop => ?_)))
  obtain ⟨o, ao, co⟩ := stop
  exact wpAny_bind (wpAny_isInstance (T := "StopIteration") (b := true) ⟨o, ao, co⟩ isSubtype_stop (wpAny_pure (go _ ext)))
end
end En
/-! ### for .. in enumerate(()) -/
def Jno (K : PySem.W.Frag) (t : Addr) : It := ⟨fun _ _ => False, fun _ _ _ _ => False, fun _ H => SqT K H t []⟩
theorem turn_no {P : Program} {w : World} {K : PySem.W.Frag} {tg : Expr} (e it t : Addr) :
    Turn P w K tg (Jno K t) [e, it] e (fun _ h => (∃ old, IsEnum h e it 0 old) ∧ h.IsTupleIter it t 0) where
  mem := List.mem_cons_self ..
  obj := fun i h st b hb => by
    obtain ⟨⟨old, he⟩, ⟨oi, hi, ci, di⟩⟩ := st
    have cs : b = e ∨ b = it := by simpa using hb
    rcases cs with rfl | rfl
    · exact ⟨_, he, fun v z => nomatch z⟩
    · exact ⟨oi, hi, fun v z => by rw [di] at z; cases z⟩
  keep := fun i h h' st k => by
    obtain ⟨⟨old, he⟩, ⟨oi, hi, ci⟩⟩ := st
    exact ⟨⟨old, k e (by simp) _ he⟩, ⟨oi, k it (by simp) _ hi, ci⟩⟩
  item := fun X _ _ _ _ i pins s σ H E _ _ _ hg => hg.elim
  done := by
    intro X hP hw hK hc i pins s σ H E I hf st hg
    subst hP hw hK
    obtain ⟨⟨old, he⟩, hi⟩ := st
    obtain ⟨its, rv, p, _⟩ := I.tuple hg
    cases rv
    obtain ⟨f0, f1, f2, f3, f4, f5⟩ := hf it (by simp)
    exact En.over (I.ok.hd hc) he hi (show s.heap.IsTuple t #[] from p) fun h2 ext => ⟨rfl, I.turned (t' := s.toks) (fun b o hb q => ext b o hb q) f0 f1 f3 f4 f5⟩
  self := fun A i s Q E st h => by
    obtain ⟨⟨old, he⟩, _⟩ := st
    exact wpAny_pyIter_enum he h
def iEnum0 (K : PySem.W.Frag) (ta : TA) : TI := fun σ H R => ta σ H fun vs H1 => ∃ t, vs = [.ref t] ∧ SqT K H1 t [] ∧ R (Jno K t) H1
theorem pi_enum0 {X : Cx} {tg e : Expr} {ta : TA} {p pos : Pos} (hg : Gl X "enumerate") (hm : X.mg "enumerate" = none) (ha : PA X [e] ta) (hs : starEach [e] X.env = [(false, eval e X.env)] := by rfl) : PI X tg (.Call (.Name "enumerate" p) [e] [] pos) (iEnum0 X.K ta) := by
  refine ⟨fun pins s σ H R I h => ?_⟩
  have args := ha.run pos pins s σ H _ I h
  refine Call_ (ld_blt I hg hm boot_enumerate (PyProof.Rows.callWith_type1 (thn args fun us s1 hh => ?_) hs rfl))
  obtain ⟨vs, H1, I1, rel, t, rfl, hq, go⟩ := hh
  have eu := Vals.ref1 rel
  subst eu
  obtain ⟨its, rv, isT, _⟩ := I1.tuple hq
  cases rv
  refine En.call_made (show s1.heap.IsTuple t #[] from isT) fun h2 he hi keep => wpAny_pyIter_enum he ?_
  have I2 := I1.kept (t' := s1.toks) keep
  refine ⟨s1.heap.objs.size + 1, [s1.heap.objs.size + 1, s1.heap.objs.size], _, Jno X.K t, H1, rfl, I2, turn_no _ _ t, ⟨⟨.none, he⟩, hi⟩, fun b hb => ?_, go⟩
  have cs : b = s1.heap.objs.size + 1 ∨ b = s1.heap.objs.size := by simpa using hb
  have le : s1.heap.objs.size ≤ b := by
    rcases cs with z | z
    · rw [z]
      exact Nat.le_add_right _ _
    · rw [z]
      exact Nat.le_refl _
  exact I1.fpOk le (I1.hok.fresh le)
section
variable {Pg : Program} {w : World} {K : PySem.W.Frag} {mg : Str → Option Value} {base : Heap}
abbrev NPl : List Str := ["self", "path", "rows", "index", "row", "address", "number", "inner"]
theorem scPl : FnScope NPl ["self", "path", "rows"] (defScope sPlace) := ⟨rfl, rfl, rfl, by decide +kernel, rfl, by decide +kernel, by decide +kernel⟩
theorem ok_place {f CL : Addr} {fd : FuncData} (F : Fun K "_place" "Layout._place" sPlace f fd) (T : LC K CL) (zE : mg "enumerate" = none) : FnOk Pg w K mg base CX0 1 f fd ["self", "path", "rows"] (spPlace CL) := by
  refine F.ok scPl (fun vs H Q E h => ?_) (fun cdv A outer s H vs Q E hr h => ?_)
  · obtain ⟨y, dy, dl, dr, pt, rt, rfl, _⟩ := h
    rfl
  · obtain ⟨y, dy, dl, dr, pt, rt, rfl, hy, hdl, hpt, hrt, k⟩ := h
    refine ⟨_, pss_cons (ps_dput (Nat.lt_of_le_of_lt (Nat.add_le_add_left (by decide : 1 ≤ 64) _) hr.units) (pe_fld (pv 0) rfl) (pv 1) (pv 2) rfl)
      (pss_one (ps_for PassesOwn.never rfl (pi_enum0 (by rfl) zE (pa_cons (pv 2) pa_nil)) (pg_tup (by rfl) (pgs_cons (pg_name (i := 3) scPl.nd rfl (Or.inl rfl)) (pgs_cons (pg_name (i := 4) scPl.nd rfl (Or.inl rfl)) pgs_nil))) pss_no)), ?_⟩
    have n1 : rt ≠ dl := ne_of hrt hdl (by intro z; cases z)
    refine ⟨_, rfl, _, rfl, y, CL, dy, _, _, rfl, hy, T.cl, T.n1, rfl, _, rfl, dl, _, rfl, DPut.t (k := []) hdl hpt (by decide), ?_⟩
    have e1 : (upd H dl (.dT (putK [] [] (.ref rt)))) rt = some (.tup []) := by rw [upd_ne n1]; exact hrt
    refine ⟨_, rfl, rt, rfl, SqT.of e1, ⟨fun i _ σ' H' => i = 0 ∧ σ' = _ ∧ H' = upd H dl (.dT (putK [] [] (.ref rt))), ⟨0, rfl, rfl, rfl⟩, fun i m σ' H' hh => ?_⟩⟩
    obtain ⟨rfl, rfl, rfl⟩ := hh
    exact .inl ⟨SqT.of e1, k _ fun b o nb e => by rw [upd_ne nb]; exact e⟩
end
theorem kit_sub {K : PySem.W.Frag} {C : Addr} {n : String} (h : PySem.W.subIn K (.ref C) (.type n) = some false) (m : PySem.W.kitMeta n = true) : PySem.W.kitOne K (.ref C) (.type n) = some false := by
  have n1 : (Value.ref C == Value.type n) = false := rfl
  simp only [PySem.W.kitOne, PySem.W.kitCls, n1, m, h, Bool.false_eq_true, if_false, if_true]
section
variable {K : PySem.W.Frag} {w : World} {mg : Str → Option Value}
theorem all_mk {l : PySem.W.OpenLaw} {h : Heap} {fa F0 F1 F2 F3 F4 F5 F6 F7 F8 F9 F10 F11 F12 F13 F14 F15 F16 F17 F18 F19 F20 F21 F22 F23 F24 F25 F26 F27 F28 F29 F30 LI LP LA LM BI C CL pUSES pWAYS pHANDINGS : Addr} (X : K.In h) (G : h.Ns mainGlobals mg) (hfa : mg "law" = some (.ref fa))
    {odF0 anF0 : Option Addr} {slF0 : Array (Option Value)} {ocF0 kVF0 dcF0 pmF0 cdF0 ctF0 : Value}
    {odF1 anF1 : Option Addr} {slF1 : Array (Option Value)} {ocF1 kVF1 dcF1 pmF1 cdF1 ctF1 : Value}
    {odF2 anF2 : Option Addr} {slF2 : Array (Option Value)} {ocF2 kVF2 dcF2 pmF2 cdF2 ctF2 : Value}
    {odF3 anF3 : Option Addr} {slF3 : Array (Option Value)} {ocF3 kVF3 dcF3 pmF3 cdF3 ctF3 : Value}
    {odF4 anF4 : Option Addr} {slF4 : Array (Option Value)} {ocF4 kVF4 dcF4 pmF4 cdF4 ctF4 : Value}
    {odF5 anF5 : Option Addr} {slF5 : Array (Option Value)} {ocF5 kVF5 dcF5 pmF5 cdF5 ctF5 : Value}
    {odF6 anF6 : Option Addr} {slF6 : Array (Option Value)} {ocF6 kVF6 dcF6 pmF6 cdF6 ctF6 : Value}
    {odF7 anF7 : Option Addr} {slF7 : Array (Option Value)} {ocF7 kVF7 dcF7 pmF7 cdF7 ctF7 : Value}
    {odF8 anF8 : Option Addr} {slF8 : Array (Option Value)} {ocF8 kVF8 dcF8 pmF8 cdF8 ctF8 : Value}
    {odF9 anF9 : Option Addr} {slF9 : Array (Option Value)} {ocF9 kVF9 dcF9 pmF9 cdF9 ctF9 : Value}
    {odF10 anF10 : Option Addr} {slF10 : Array (Option Value)} {ocF10 kVF10 dcF10 pmF10 cdF10 ctF10 : Value}
    {odF11 anF11 : Option Addr} {slF11 : Array (Option Value)} {ocF11 kVF11 dcF11 pmF11 cdF11 ctF11 : Value}
    {odF12 anF12 : Option Addr} {slF12 : Array (Option Value)} {ocF12 kVF12 dcF12 pmF12 cdF12 ctF12 : Value}
    {odF13 anF13 : Option Addr} {slF13 : Array (Option Value)} {ocF13 kVF13 dcF13 pmF13 cdF13 ctF13 : Value}
    {odF14 anF14 : Option Addr} {slF14 : Array (Option Value)} {ocF14 kVF14 dcF14 pmF14 cdF14 ctF14 : Value}
    {odF15 anF15 : Option Addr} {slF15 : Array (Option Value)} {ocF15 kVF15 dcF15 pmF15 cdF15 ctF15 : Value}
    {odF16 anF16 : Option Addr} {slF16 : Array (Option Value)} {ocF16 kVF16 dcF16 pmF16 cdF16 ctF16 : Value}
    {odF17 anF17 : Option Addr} {slF17 : Array (Option Value)} {ocF17 kVF17 dcF17 pmF17 cdF17 ctF17 : Value}
    {odF18 anF18 : Option Addr} {slF18 : Array (Option Value)} {ocF18 kVF18 dcF18 pmF18 cdF18 ctF18 : Value}
    {odF19 anF19 : Option Addr} {slF19 : Array (Option Value)} {ocF19 kVF19 dcF19 pmF19 cdF19 ctF19 : Value}
    {odF20 anF20 : Option Addr} {slF20 : Array (Option Value)} {ocF20 kVF20 dcF20 pmF20 cdF20 ctF20 : Value}
    {odF21 anF21 : Option Addr} {slF21 : Array (Option Value)} {ocF21 kVF21 dcF21 pmF21 cdF21 ctF21 : Value}
    {odF22 anF22 : Option Addr} {slF22 : Array (Option Value)} {ocF22 kVF22 dcF22 pmF22 cdF22 ctF22 : Value}
    {odF23 anF23 : Option Addr} {slF23 : Array (Option Value)} {ocF23 kVF23 dcF23 pmF23 cdF23 ctF23 : Value}
    {odF24 anF24 : Option Addr} {slF24 : Array (Option Value)} {ocF24 kVF24 dcF24 pmF24 cdF24 ctF24 : Value}
    {odF25 anF25 : Option Addr} {slF25 : Array (Option Value)} {ocF25 kVF25 dcF25 pmF25 cdF25 ctF25 : Value}
    {odF26 anF26 : Option Addr} {slF26 : Array (Option Value)} {ocF26 kVF26 dcF26 pmF26 cdF26 ctF26 : Value}
    {odF27 anF27 : Option Addr} {slF27 : Array (Option Value)} {ocF27 kVF27 dcF27 pmF27 cdF27 ctF27 : Value}
    {odF28 anF28 : Option Addr} {slF28 : Array (Option Value)} {ocF28 kVF28 dcF28 pmF28 cdF28 ctF28 : Value}
    {odF29 anF29 : Option Addr} {slF29 : Array (Option Value)} {ocF29 kVF29 dcF29 pmF29 cdF29 ctF29 : Value}
    {odF30 anF30 : Option Addr} {slF30 : Array (Option Value)} {ocF30 kVF30 dcF30 pmF30 cdF30 ctF30 : Value}
    {odLI anLI : Option Addr} {slLI : Array (Option Value)} {ocLI kVLI dcLI pmLI cdLI ctLI : Value}
    {odLP anLP : Option Addr} {slLP : Array (Option Value)} {ocLP kVLP dcLP pmLP cdLP ctLP : Value}
    {odLA anLA : Option Addr} {slLA : Array (Option Value)} {ocLA kVLA dcLA pmLA cdLA ctLA : Value}
    {odLM anLM : Option Addr} {slLM : Array (Option Value)} {ocLM kVLM dcLM pmLM cdLM ctLM : Value}
    {odBI anBI : Option Addr} {slBI : Array (Option Value)} {ocBI kVBI dcBI pmBI cdBI ctBI : Value}
    {t0 t1 t2 t3 t4 t5 : Tok}
    {wUSES0 wUSES1 : Tok} {ddUSES : Option Addr} {nnUSES : Nat} {ssUSES : Array (Option Value)}
    {wWAYS0 wWAYS1 wWAYS2 wWAYS3 wWAYS4 wWAYS5 : Tok} {ddWAYS : Option Addr} {nnWAYS : Nat} {ssWAYS : Array (Option Value)}
    {wHANDINGS0 wHANDINGS1 wHANDINGS2 : Tok} {ddHANDINGS : Option Addr} {nnHANDINGS : Nat} {ssHANDINGS : Array (Option Value)}
    (gF0 : PySem.W.nsIn K mainGlobals "is_integer" = some (some (.ref F0)))
    (lF0 : K.lookup F0 = some ⟨ocF0, odF0, .func (PySem.W.fnOf "is_integer" "is_integer" (defArgs sIsInt) (defBody sIsInt) (defScope sIsInt) .none kVF0 dcF0 pmF0 anF0 cdF0 ctF0), slF0⟩)
    (cF0 : PySem.W.codeIn K cdF0 "is_integer" = true)
    (kF0 : PySem.W.keepIn K (.ref F0) = true)
    (gF1 : PySem.W.nsIn K mainGlobals "is_name" = some (some (.ref F1)))
    (lF1 : K.lookup F1 = some ⟨ocF1, odF1, .func (PySem.W.fnOf "is_name" "is_name" (defArgs sIsName) (defBody sIsName) (defScope sIsName) .none kVF1 dcF1 pmF1 anF1 cdF1 ctF1), slF1⟩)
    (cF1 : PySem.W.codeIn K cdF1 "is_name" = true)
    (kF1 : PySem.W.keepIn K (.ref F1) = true)
    (gF2 : PySem.W.nsIn K mainGlobals "is_one_of" = some (some (.ref F2)))
    (lF2 : K.lookup F2 = some ⟨ocF2, odF2, .func (PySem.W.fnOf "is_one_of" "is_one_of" (defArgs sIsOne) (defBody sIsOne) (defScope sIsOne) .none kVF2 dcF2 pmF2 anF2 cdF2 ctF2), slF2⟩)
    (cF2 : PySem.W.codeIn K cdF2 "is_one_of" = true)
    (kF2 : PySem.W.keepIn K (.ref F2) = true)
    (gF3 : PySem.W.nsIn K mainGlobals "is_use" = some (some (.ref F3)))
    (lF3 : K.lookup F3 = some ⟨ocF3, odF3, .func (PySem.W.fnOf "is_use" "is_use" (defArgs s_isUse) (defBody s_isUse) (defScope s_isUse) .none kVF3 dcF3 pmF3 anF3 cdF3 ctF3), slF3⟩)
    (cF3 : PySem.W.codeIn K cdF3 "is_use" = true)
    (kF3 : PySem.W.keepIn K (.ref F3) = true)
    (gF4 : PySem.W.nsIn K mainGlobals "is_way" = some (some (.ref F4)))
    (lF4 : K.lookup F4 = some ⟨ocF4, odF4, .func (PySem.W.fnOf "is_way" "is_way" (defArgs s_isWay) (defBody s_isWay) (defScope s_isWay) .none kVF4 dcF4 pmF4 anF4 cdF4 ctF4), slF4⟩)
    (cF4 : PySem.W.codeIn K cdF4 "is_way" = true)
    (kF4 : PySem.W.keepIn K (.ref F4) = true)
    (gF5 : PySem.W.nsIn K mainGlobals "is_handing" = some (some (.ref F5)))
    (lF5 : K.lookup F5 = some ⟨ocF5, odF5, .func (PySem.W.fnOf "is_handing" "is_handing" (defArgs s_isHand) (defBody s_isHand) (defScope s_isHand) .none kVF5 dcF5 pmF5 anF5 cdF5 ctF5), slF5⟩)
    (cF5 : PySem.W.codeIn K cdF5 "is_handing" = true)
    (kF5 : PySem.W.keepIn K (.ref F5) = true)
    (gF6 : PySem.W.nsIn K mainGlobals "is_list" = some (some (.ref F6)))
    (lF6 : K.lookup F6 = some ⟨ocF6, odF6, .func (PySem.W.fnOf "is_list" "is_list" (defArgs sIsList) (defBody sIsList) (defScope sIsList) .none kVF6 dcF6 pmF6 anF6 cdF6 ctF6), slF6⟩)
    (cF6 : PySem.W.codeIn K cdF6 "is_list" = true)
    (kF6 : PySem.W.keepIn K (.ref F6) = true)
    (gF7 : PySem.W.nsIn K mainGlobals "are_names" = some (some (.ref F7)))
    (lF7 : K.lookup F7 = some ⟨ocF7, odF7, .func (PySem.W.fnOf "are_names" "are_names" (defArgs sAreNames) (defBody sAreNames) (defScope sAreNames) .none kVF7 dcF7 pmF7 anF7 cdF7 ctF7), slF7⟩)
    (cF7 : PySem.W.codeIn K cdF7 "are_names" = true)
    (kF7 : PySem.W.keepIn K (.ref F7) = true)
    (gF8 : PySem.W.nsIn K mainGlobals "is_address" = some (some (.ref F8)))
    (lF8 : K.lookup F8 = some ⟨ocF8, odF8, .func (PySem.W.fnOf "is_address" "is_address" (defArgs sIsAddr) (defBody sIsAddr) (defScope sIsAddr) .none kVF8 dcF8 pmF8 anF8 cdF8 ctF8), slF8⟩)
    (cF8 : PySem.W.codeIn K cdF8 "is_address" = true)
    (kF8 : PySem.W.keepIn K (.ref F8) = true)
    (gF9 : PySem.W.nsIn K mainGlobals "are_rows" = some (some (.ref F9)))
    (lF9 : K.lookup F9 = some ⟨ocF9, odF9, .func (PySem.W.fnOf "are_rows" "are_rows" (defArgs sRows) (defBody sRows) (defScope sRows) .none kVF9 dcF9 pmF9 anF9 cdF9 ctF9), slF9⟩)
    (cF9 : PySem.W.codeIn K cdF9 "are_rows" = true)
    (kF9 : PySem.W.keepIn K (.ref F9) = true)
    (gF10 : PySem.W.nsIn K mainGlobals "all_rows" = some (some (.ref F10)))
    (lF10 : K.lookup F10 = some ⟨ocF10, odF10, .func (PySem.W.fnOf "all_rows" "all_rows" (defArgs sAll) (defBody sAll) (defScope sAll) .none kVF10 dcF10 pmF10 anF10 cdF10 ctF10), slF10⟩)
    (cF10 : PySem.W.codeIn K cdF10 "all_rows" = true)
    (kF10 : PySem.W.keepIn K (.ref F10) = true)
    (gF11 : PySem.W.nsIn K mainGlobals "names_in" = some (some (.ref F11)))
    (lF11 : K.lookup F11 = some ⟨ocF11, odF11, .func (PySem.W.fnOf "names_in" "names_in" (defArgs sNamesIn) (defBody sNamesIn) (defScope sNamesIn) .none kVF11 dcF11 pmF11 anF11 cdF11 ctF11), slF11⟩)
    (cF11 : PySem.W.codeIn K cdF11 "names_in" = true)
    (kF11 : PySem.W.keepIn K (.ref F11) = true)
    (gF12 : PySem.W.nsIn K mainGlobals "marks_in" = some (some (.ref F12)))
    (lF12 : K.lookup F12 = some ⟨ocF12, odF12, .func (PySem.W.fnOf "marks_in" "marks_in" (defArgs sMarksIn) (defBody sMarksIn) (defScope sMarksIn) .none kVF12 dcF12 pmF12 anF12 cdF12 ctF12), slF12⟩)
    (cF12 : PySem.W.codeIn K cdF12 "marks_in" = true)
    (kF12 : PySem.W.keepIn K (.ref F12) = true)
    (gF13 : PySem.W.nsIn K mainGlobals "count" = some (some (.ref F13)))
    (lF13 : K.lookup F13 = some ⟨ocF13, odF13, .func (PySem.W.fnOf "count" "count" (defArgs sCount) (defBody sCount) (defScope sCount) .none kVF13 dcF13 pmF13 anF13 cdF13 ctF13), slF13⟩)
    (cF13 : PySem.W.codeIn K cdF13 "count" = true)
    (kF13 : PySem.W.keepIn K (.ref F13) = true)
    (gF14 : PySem.W.nsIn K mainGlobals "depth" = some (some (.ref F14)))
    (lF14 : K.lookup F14 = some ⟨ocF14, odF14, .func (PySem.W.fnOf "depth" "depth" (defArgs sDepth) (defBody sDepth) (defScope sDepth) .none kVF14 dcF14 pmF14 anF14 cdF14 ctF14), slF14⟩)
    (cF14 : PySem.W.codeIn K cdF14 "depth" = true)
    (kF14 : PySem.W.keepIn K (.ref F14) = true)
    (gF15 : PySem.W.nsIn K mainGlobals "need_room" = some (some (.ref F15)))
    (lF15 : K.lookup F15 = some ⟨ocF15, odF15, .func (PySem.W.fnOf "need_room" "need_room" (defArgs sRoom) (defBody sRoom) (defScope sRoom) .none kVF15 dcF15 pmF15 anF15 cdF15 ctF15), slF15⟩)
    (cF15 : PySem.W.codeIn K cdF15 "need_room" = true)
    (kF15 : PySem.W.keepIn K (.ref F15) = true)
    (gF16 : PySem.W.nsIn K mainGlobals "need_single_marks" = some (some (.ref F16)))
    (lF16 : K.lookup F16 = some ⟨ocF16, odF16, .func (PySem.W.fnOf "need_single_marks" "need_single_marks" (defArgs sSingle) (defBody sSingle) (defScope sSingle) .none kVF16 dcF16 pmF16 anF16 cdF16 ctF16), slF16⟩)
    (cF16 : PySem.W.codeIn K cdF16 "need_single_marks" = true)
    (kF16 : PySem.W.keepIn K (.ref F16) = true)
    (gF17 : PySem.W.nsIn K mainGlobals "need_last" = some (some (.ref F17)))
    (lF17 : K.lookup F17 = some ⟨ocF17, odF17, .func (PySem.W.fnOf "need_last" "need_last" (defArgs sNeedLast) (defBody sNeedLast) (defScope sNeedLast) .none kVF17 dcF17 pmF17 anF17 cdF17 ctF17), slF17⟩)
    (cF17 : PySem.W.codeIn K cdF17 "need_last" = true)
    (kF17 : PySem.W.keepIn K (.ref F17) = true)
    (gF18 : PySem.W.nsIn K mainGlobals "need_loops" = some (some (.ref F18)))
    (lF18 : K.lookup F18 = some ⟨ocF18, odF18, .func (PySem.W.fnOf "need_loops" "need_loops" (defArgs sNeedLoops) (defBody sNeedLoops) (defScope sNeedLoops) .none kVF18 dcF18 pmF18 anF18 cdF18 ctF18), slF18⟩)
    (cF18 : PySem.W.codeIn K cdF18 "need_loops" = true)
    (kF18 : PySem.W.keepIn K (.ref F18) = true)
    (gF19 : PySem.W.nsIn K mainGlobals "are_given" = some (some (.ref F19)))
    (lF19 : K.lookup F19 = some ⟨ocF19, odF19, .func (PySem.W.fnOf "are_given" "are_given" (defArgs sGiven) (defBody sGiven) (defScope sGiven) .none kVF19 dcF19 pmF19 anF19 cdF19 ctF19), slF19⟩)
    (cF19 : PySem.W.codeIn K cdF19 "are_given" = true)
    (kF19 : PySem.W.keepIn K (.ref F19) = true)
    (gF20 : PySem.W.nsIn K mainGlobals "_law_bag" = some (some (.ref F20)))
    (lF20 : K.lookup F20 = some ⟨ocF20, odF20, .func (PySem.W.fnOf "_law_bag" "_law_bag" (defArgs sBag) (defBody sBag) (defScope sBag) .none kVF20 dcF20 pmF20 anF20 cdF20 ctF20), slF20⟩)
    (cF20 : PySem.W.codeIn K cdF20 "_law_bag" = true)
    (kF20 : PySem.W.keepIn K (.ref F20) = true)
    (gF21 : PySem.W.nsIn K mainGlobals "_law_take" = some (some (.ref F21)))
    (lF21 : K.lookup F21 = some ⟨ocF21, odF21, .func (PySem.W.fnOf "_law_take" "_law_take" (defArgs sTake) (defBody sTake) (defScope sTake) .none kVF21 dcF21 pmF21 anF21 cdF21 ctF21), slF21⟩)
    (cF21 : PySem.W.codeIn K cdF21 "_law_take" = true)
    (kF21 : PySem.W.keepIn K (.ref F21) = true)
    (gF22 : PySem.W.nsIn K mainGlobals "_law_alike" = some (some (.ref F22)))
    (lF22 : K.lookup F22 = some ⟨ocF22, odF22, .func (PySem.W.fnOf "_law_alike" "_law_alike" (defArgs sAlike) (defBody sAlike) (defScope sAlike) .none kVF22 dcF22 pmF22 anF22 cdF22 ctF22), slF22⟩)
    (cF22 : PySem.W.codeIn K cdF22 "_law_alike" = true)
    (kF22 : PySem.W.keepIn K (.ref F22) = true)
    (gF23 : PySem.W.nsIn K mainGlobals "_law_names" = some (some (.ref F23)))
    (lF23 : K.lookup F23 = some ⟨ocF23, odF23, .func (PySem.W.fnOf "_law_names" "_law_names" (defArgs sNames) (defBody sNames) (defScope sNames) .none kVF23 dcF23 pmF23 anF23 cdF23 ctF23), slF23⟩)
    (cF23 : PySem.W.codeIn K cdF23 "_law_names" = true)
    (kF23 : PySem.W.keepIn K (.ref F23) = true)
    (gF24 : PySem.W.nsIn K mainGlobals "_law_is_word" = some (some (.ref F24)))
    (lF24 : K.lookup F24 = some ⟨ocF24, odF24, .func (PySem.W.fnOf "_law_is_word" "_law_is_word" (defArgs sIsWord) (defBody sIsWord) (defScope sIsWord) .none kVF24 dcF24 pmF24 anF24 cdF24 ctF24), slF24⟩)
    (cF24 : PySem.W.codeIn K cdF24 "_law_is_word" = true)
    (kF24 : PySem.W.keepIn K (.ref F24) = true)
    (gF25 : PySem.W.nsIn K mainGlobals "_law_text" = some (some (.ref F25)))
    (lF25 : K.lookup F25 = some ⟨ocF25, odF25, .func (PySem.W.fnOf "_law_text" "_law_text" (defArgs sText) (defBody sText) (defScope sText) .none kVF25 dcF25 pmF25 anF25 cdF25 ctF25), slF25⟩)
    (cF25 : PySem.W.codeIn K cdF25 "_law_text" = true)
    (kF25 : PySem.W.keepIn K (.ref F25) = true)
    (gF26 : PySem.W.nsIn K mainGlobals "_law_thing" = some (some (.ref F26)))
    (lF26 : K.lookup F26 = some ⟨ocF26, odF26, .func (PySem.W.fnOf "_law_thing" "_law_thing" (defArgs sThing) (defBody sThing) (defScope sThing) .none kVF26 dcF26 pmF26 anF26 cdF26 ctF26), slF26⟩)
    (cF26 : PySem.W.codeIn K cdF26 "_law_thing" = true)
    (kF26 : PySem.W.keepIn K (.ref F26) = true)
    (gF27 : PySem.W.nsIn K mainGlobals "_law_address" = some (some (.ref F27)))
    (lF27 : K.lookup F27 = some ⟨ocF27, odF27, .func (PySem.W.fnOf "_law_address" "_law_address" (defArgs sAddr) (defBody sAddr) (defScope sAddr) .none kVF27 dcF27 pmF27 anF27 cdF27 ctF27), slF27⟩)
    (cF27 : PySem.W.codeIn K cdF27 "_law_address" = true)
    (kF27 : PySem.W.keepIn K (.ref F27) = true)
    (gF28 : PySem.W.nsIn K mainGlobals "_law_is_int" = some (some (.ref F28)))
    (lF28 : K.lookup F28 = some ⟨ocF28, odF28, .func (PySem.W.fnOf "_law_is_int" "_law_is_int" (defArgs sLIsInt) (defBody sLIsInt) (defScope sLIsInt) .none kVF28 dcF28 pmF28 anF28 cdF28 ctF28), slF28⟩)
    (cF28 : PySem.W.codeIn K cdF28 "_law_is_int" = true)
    (kF28 : PySem.W.keepIn K (.ref F28) = true)
    (gF29 : PySem.W.nsIn K mainGlobals "_law_right" = some (some (.ref F29)))
    (lF29 : K.lookup F29 = some ⟨ocF29, odF29, .func (PySem.W.fnOf "_law_right" "_law_right" (defArgs sRight) (defBody sRight) (defScope sRight) .none kVF29 dcF29 pmF29 anF29 cdF29 ctF29), slF29⟩)
    (cF29 : PySem.W.codeIn K cdF29 "_law_right" = true)
    (kF29 : PySem.W.keepIn K (.ref F29) = true)
    (gF30 : PySem.W.nsIn K mainGlobals "law" = some (some (.ref F30)))
    (lF30 : K.lookup F30 = some ⟨ocF30, odF30, .func (PySem.W.fnOf "law" "law" (defArgs sLaw) (defBody sLaw) (defScope sLaw) .none kVF30 dcF30 pmF30 anF30 cdF30 ctF30), slF30⟩)
    (cF30 : PySem.W.codeIn K cdF30 "law" = true)
    (kF30 : PySem.W.keepIn K (.ref F30) = true)
    (gC : PySem.W.nsIn K mainGlobals "Body" = some (some (.ref C)))
    (pgC : PySem.W.plainGet K C Str.empty = true)
    (hdC : PySem.W.hasDictIn K C = true)
    (poC : PySem.W.plainOver K C = true)
    (saC : PySem.W.findIn K (.ref C) "__setattr__" = some (some (.builtin "object.__setattr__")))
    (mkC : PySem.W.makesIn K C = true)
    (inC : PySem.W.findIn K (.ref C) "__init__" = some (some (.ref BI)))
    (ifC : PySem.W.isFn K (.ref BI) = true)
    (kpC : PySem.W.keepIn K (.ref C) = true)
    (noC0 : PySem.W.findIn K (.ref C) "_given" = some none)
    (noC1 : PySem.W.findIn K (.ref C) "_rows" = some none)
    (noC2 : PySem.W.findIn K (.ref C) "_layout" = some none)
    (noC3 : PySem.W.findIn K (.ref C) "_addresses" = some none)
    (noC4 : PySem.W.findIn K (.ref C) "_at_marks" = some none)
    (gCL : PySem.W.nsIn K mainGlobals "Layout" = some (some (.ref CL)))
    (pgCL : PySem.W.plainGet K CL Str.empty = true)
    (hdCL : PySem.W.hasDictIn K CL = true)
    (poCL : PySem.W.plainOver K CL = true)
    (saCL : PySem.W.findIn K (.ref CL) "__setattr__" = some (some (.builtin "object.__setattr__")))
    (mkCL : PySem.W.makesIn K CL = true)
    (inCL : PySem.W.findIn K (.ref CL) "__init__" = some (some (.ref LI)))
    (ifCL : PySem.W.isFn K (.ref LI) = true)
    (kpCL : PySem.W.keepIn K (.ref CL) = true)
    (noCL0 : PySem.W.findIn K (.ref CL) "_lists" = some none)
    (noCL1 : PySem.W.findIn K (.ref CL) "_rows" = some none)
    (meLP : PySem.W.findIn K (.ref CL) "_place" = some (some (.ref LP)))
    (fnLP : PySem.W.isFn K (.ref LP) = true)
    (meLA : PySem.W.findIn K (.ref CL) "addresses" = some (some (.ref LA)))
    (fnLA : PySem.W.isFn K (.ref LA) = true)
    (meLM : PySem.W.findIn K (.ref CL) "by_marks" = some (some (.ref LM)))
    (fnLM : PySem.W.isFn K (.ref LM) = true)
    (lLI : K.lookup LI = some ⟨ocLI, odLI, .func (PySem.W.fnOf "__init__" "Layout.__init__" (defArgs sLayInit) (defBody sLayInit) (defScope sLayInit) .none kVLI dcLI pmLI anLI cdLI ctLI), slLI⟩)
    (cLI : PySem.W.codeIn K cdLI "Layout.__init__" = true)
    (kLI : PySem.W.keepIn K (.ref LI) = true)
    (lLP : K.lookup LP = some ⟨ocLP, odLP, .func (PySem.W.fnOf "_place" "Layout._place" (defArgs sPlace) (defBody sPlace) (defScope sPlace) .none kVLP dcLP pmLP anLP cdLP ctLP), slLP⟩)
    (cLP : PySem.W.codeIn K cdLP "Layout._place" = true)
    (kLP : PySem.W.keepIn K (.ref LP) = true)
    (lLA : K.lookup LA = some ⟨ocLA, odLA, .func (PySem.W.fnOf "addresses" "Layout.addresses" (defArgs sAddrs) (defBody sAddrs) (defScope sAddrs) .none kVLA dcLA pmLA anLA cdLA ctLA), slLA⟩)
    (cLA : PySem.W.codeIn K cdLA "Layout.addresses" = true)
    (kLA : PySem.W.keepIn K (.ref LA) = true)
    (lLM : K.lookup LM = some ⟨ocLM, odLM, .func (PySem.W.fnOf "by_marks" "Layout.by_marks" (defArgs sByMarks) (defBody sByMarks) (defScope sByMarks) .none kVLM dcLM pmLM anLM cdLM ctLM), slLM⟩)
    (cLM : PySem.W.codeIn K cdLM "Layout.by_marks" = true)
    (kLM : PySem.W.keepIn K (.ref LM) = true)
    (lBI : K.lookup BI = some ⟨ocBI, odBI, .func (PySem.W.fnOf "__init__" "Body.__init__" (defArgs sBodyInit) (defBody sBodyInit) (defScope sBodyInit) .none kVBI dcBI pmBI anBI cdBI ctBI), slBI⟩)
    (cBI : PySem.W.codeIn K cdBI "Body.__init__" = true)
    (kBI : PySem.W.keepIn K (.ref BI) = true)
    (ha : PySem.W.findIn K (.ref C) "__class__" = some (some (.builtin "object.__class__")))
    (hn : PySem.W.specialIn K (.builtin "object.__class__") "__get__" = some (some (.builtin "getset_descriptor.__get__")))
    (ht : PySem.W.takesIn K (.builtin "object.__class__") = some true)
    (hm : PySem.W.mroIn K C (.type "object") = some true)
    (kit_int : PySem.W.subIn K (.ref C) (.type "int") = some false)
    (kit_bool : PySem.W.subIn K (.ref C) (.type "bool") = some false)
    (kit_str : PySem.W.subIn K (.ref C) (.type "str") = some false)
    (kit_list : PySem.W.subIn K (.ref C) (.type "list") = some false)
    (kit_tuple : PySem.W.subIn K (.ref C) (.type "tuple") = some false)
    (z_isinstance : PySem.W.nsIn K mainGlobals "isinstance" = some none)
    (z_int : PySem.W.nsIn K mainGlobals "int" = some none)
    (z_bool : PySem.W.nsIn K mainGlobals "bool" = some none)
    (z_str : PySem.W.nsIn K mainGlobals "str" = some none)
    (z_list : PySem.W.nsIn K mainGlobals "list" = some none)
    (z_tuple : PySem.W.nsIn K mainGlobals "tuple" = some none)
    (z_len : PySem.W.nsIn K mainGlobals "len" = some none)
    (z_all : PySem.W.nsIn K mainGlobals "all" = some none)
    (z_repr : PySem.W.nsIn K mainGlobals "repr" = some none)
    (z_abs : PySem.W.nsIn K mainGlobals "abs" = some none)
    (z_range : PySem.W.nsIn K mainGlobals "range" = some none)
    (z_sorted : PySem.W.nsIn K mainGlobals "sorted" = some none)
    (z_set : PySem.W.nsIn K mainGlobals "set" = some none)
    (z_zip : PySem.W.nsIn K mainGlobals "zip" = some none)
    (z_enumerate : PySem.W.nsIn K mainGlobals "enumerate" = some none)
    (v_LETTERS : PySem.W.nsIn K mainGlobals "LETTERS" = some (some (.str "abcdefghijklmnopqrstuvwxyz" t0)))
    (v_LONGEST : PySem.W.nsIn K mainGlobals "LONGEST" = some (some (.int 8 t1)))
    (v_MOST_GIVEN : PySem.W.nsIn K mainGlobals "MOST_GIVEN" = some (some (.int 4 t2)))
    (v_MOST_ROWS : PySem.W.nsIn K mainGlobals "MOST_ROWS" = some (some (.int 100 t3)))
    (v_MOST_DEPTH : PySem.W.nsIn K mainGlobals "MOST_DEPTH" = some (some (.int 10 t4)))
    (v_MOST_NAMES : PySem.W.nsIn K mainGlobals "MOST_NAMES" = some (some (.int 8 t5)))
    (u_USES : PySem.W.nsIn K mainGlobals "USES" = some (some (.ref pUSES)))
    (x_USES : K.lookup pUSES = some ⟨.type "tuple", ddUSES, .seq #[.str "look" wUSES0, .str "put" wUSES1] nnUSES, ssUSES⟩)
    (u_WAYS : PySem.W.nsIn K mainGlobals "WAYS" = some (some (.ref pWAYS)))
    (x_WAYS : K.lookup pWAYS = some ⟨.type "tuple", ddWAYS, .seq #[.str "again" wWAYS0, .str "answer" wWAYS1, .str "end" wWAYS2, .str "fail" wWAYS3, .str "leave" wWAYS4, .str "shut" wWAYS5] nnWAYS, ssWAYS⟩)
    (u_HANDINGS : PySem.W.nsIn K mainGlobals "HANDINGS" = some (some (.ref pHANDINGS)))
    (x_HANDINGS : K.lookup pHANDINGS = some ⟨.type "tuple", ddHANDINGS, .seq #[.str "none" wHANDINGS0, .str "value" wHANDINGS1, .str "state" wHANDINGS2] nnHANDINGS, ssHANDINGS⟩) :
    ∃ fd : FuncData, (∀ (s : Shared) (v : Value), BindsTo s fd ⟨[v], []⟩ [("_law_script", v)]) ∧ ∀ base : Heap, K.In base → base.Ns mainGlobals mg → FnG l.prog w K mg base 9 fa fd ["_law_script"] (spLaw K) := by
  have e := hfa.symm.trans (PySem.W.mg_of X G gF30)
  cases e
  have VF0 := fun_mk (st := sIsInt) lF0 cF0 kF0
  have DF0 := VF0.binds (ps := ["thing"]) fun _ _ _ _ _ _ us hl => match us, hl with | [_], _ => rfl
  have VF1 := fun_mk (st := sIsName) lF1 cF1 kF1
  have DF1 := VF1.binds (ps := ["thing"]) fun _ _ _ _ _ _ us hl => match us, hl with | [_], _ => rfl
  have VF2 := fun_mk (st := sIsOne) lF2 cF2 kF2
  have DF2 := VF2.binds (ps := ["thing", "words"]) fun _ _ _ _ _ _ us hl => match us, hl with | [_, _], _ => rfl
  have VF3 := fun_mk (st := s_isUse) lF3 cF3 kF3
  have DF3 := VF3.binds (ps := ["thing"]) fun _ _ _ _ _ _ us hl => match us, hl with | [_], _ => rfl
  have VF4 := fun_mk (st := s_isWay) lF4 cF4 kF4
  have DF4 := VF4.binds (ps := ["thing"]) fun _ _ _ _ _ _ us hl => match us, hl with | [_], _ => rfl
  have VF5 := fun_mk (st := s_isHand) lF5 cF5 kF5
  have DF5 := VF5.binds (ps := ["thing"]) fun _ _ _ _ _ _ us hl => match us, hl with | [_], _ => rfl
  have VF6 := fun_mk (st := sIsList) lF6 cF6 kF6
  have DF6 := VF6.binds (ps := ["thing"]) fun _ _ _ _ _ _ us hl => match us, hl with | [_], _ => rfl
  have VF7 := fun_mk (st := sAreNames) lF7 cF7 kF7
  have DF7 := VF7.binds (ps := ["thing", "most"]) fun _ _ _ _ _ _ us hl => match us, hl with | [_, _], _ => rfl
  have VF8 := fun_mk (st := sIsAddr) lF8 cF8 kF8
  have DF8 := VF8.binds (ps := ["thing"]) fun _ _ _ _ _ _ us hl => match us, hl with | [_], _ => rfl
  have VF9 := fun_mk (st := sRows) lF9 cF9 kF9
  have DF9 := VF9.binds (ps := ["thing"]) fun _ _ _ _ _ _ us hl => match us, hl with | [_], _ => rfl
  have VF10 := fun_mk (st := sAll) lF10 cF10 kF10
  have DF10 := VF10.binds (ps := ["rows"]) fun _ _ _ _ _ _ us hl => match us, hl with | [_], _ => rfl
  have VF11 := fun_mk (st := sNamesIn) lF11 cF11 kF11
  have DF11 := VF11.binds (ps := ["rows"]) fun _ _ _ _ _ _ us hl => match us, hl with | [_], _ => rfl
  have VF12 := fun_mk (st := sMarksIn) lF12 cF12 kF12
  have DF12 := VF12.binds (ps := ["rows"]) fun _ _ _ _ _ _ us hl => match us, hl with | [_], _ => rfl
  have VF13 := fun_mk (st := sCount) lF13 cF13 kF13
  have DF13 := VF13.binds (ps := ["rows"]) fun _ _ _ _ _ _ us hl => match us, hl with | [_], _ => rfl
  have VF14 := fun_mk (st := sDepth) lF14 cF14 kF14
  have DF14 := VF14.binds (ps := ["rows"]) fun _ _ _ _ _ _ us hl => match us, hl with | [_], _ => rfl
  have VF15 := fun_mk (st := sRoom) lF15 cF15 kF15
  have DF15 := VF15.binds (ps := ["given", "rows"]) fun _ _ _ _ _ _ us hl => match us, hl with | [_, _], _ => rfl
  have VF16 := fun_mk (st := sSingle) lF16 cF16 kF16
  have DF16 := VF16.binds (ps := ["rows"]) fun _ _ _ _ _ _ us hl => match us, hl with | [_], _ => rfl
  have VF17 := fun_mk (st := sNeedLast) lF17 cF17 kF17
  have DF17 := VF17.binds (ps := ["layout"]) fun _ _ _ _ _ _ us hl => match us, hl with | [_], _ => rfl
  have VF18 := fun_mk (st := sNeedLoops) lF18 cF18 kF18
  have DF18 := VF18.binds (ps := ["layout"]) fun _ _ _ _ _ _ us hl => match us, hl with | [_], _ => rfl
  have VF19 := fun_mk (st := sGiven) lF19 cF19 kF19
  have DF19 := VF19.binds (ps := ["thing"]) fun _ _ _ _ _ _ us hl => match us, hl with | [_], _ => rfl
  have VF20 := fun_mk (st := sBag) lF20 cF20 kF20
  have DF20 := VF20.binds (ps := ["_law_script"]) fun _ _ _ _ _ _ us hl => match us, hl with | [_], _ => rfl
  have VF21 := fun_mk (st := sTake) lF21 cF21 kF21
  have DF21 := VF21.binds (ps := ["_law_bag_here", "_law_many"]) fun _ _ _ _ _ _ us hl => match us, hl with | [_, _], _ => rfl
  have VF22 := fun_mk (st := sAlike) lF22 cF22 kF22
  have DF22 := VF22.binds (ps := ["_law_found", "_law_due"]) fun _ _ _ _ _ _ us hl => match us, hl with | [_, _], _ => rfl
  have VF23 := fun_mk (st := sNames) lF23 cF23 kF23
  have DF23 := VF23.binds (ps := ["_law_bag_here", "_law_many"]) fun _ _ _ _ _ _ us hl => match us, hl with | [_, _], _ => rfl
  have VF24 := fun_mk (st := sIsWord) lF24 cF24 kF24
  have DF24 := VF24.binds (ps := ["_law_thing_here"]) fun _ _ _ _ _ _ us hl => match us, hl with | [_], _ => rfl
  have VF25 := fun_mk (st := sText) lF25 cF25 kF25
  have DF25 := VF25.binds (ps := ["_law_bag_here"]) fun _ _ _ _ _ _ us hl => match us, hl with | [_], _ => rfl
  have VF26 := fun_mk (st := sThing) lF26 cF26 kF26
  have DF26 := VF26.binds (ps := ["_law_bag_here", "_law_deep"]) fun _ _ _ _ _ _ us hl => match us, hl with | [_, _], _ => rfl
  have VF27 := fun_mk (st := sAddr) lF27 cF27 kF27
  have DF27 := VF27.binds (ps := ["_law_bag_here"]) fun _ _ _ _ _ _ us hl => match us, hl with | [_], _ => rfl
  have VF28 := fun_mk (st := sLIsInt) lF28 cF28 kF28
  have DF28 := VF28.binds (ps := ["_law_thing_here"]) fun _ _ _ _ _ _ us hl => match us, hl with | [_], _ => rfl
  have VF29 := fun_mk (st := sRight) lF29 cF29 kF29
  have DF29 := VF29.binds (ps := ["_law_thing_here", "_law_upto"]) fun _ _ _ _ _ _ us hl => match us, hl with | [_, _], _ => rfl
  have VF30 := fun_mk (st := sLaw) lF30 cF30 kF30
  have VLI := fun_mk (st := sLayInit) lLI cLI kLI
  have DLI := VLI.binds (ps := ["self", "rows"]) fun _ _ _ _ _ _ us hl => match us, hl with | [_, _], _ => rfl
  have VLP := fun_mk (st := sPlace) lLP cLP kLP
  have DLP := VLP.binds (ps := ["self", "path", "rows"]) fun _ _ _ _ _ _ us hl => match us, hl with | [_, _, _], _ => rfl
  have VLA := fun_mk (st := sAddrs) lLA cLA kLA
  have DLA := VLA.binds (ps := ["self"]) fun _ _ _ _ _ _ us hl => match us, hl with | [_], _ => rfl
  have VLM := fun_mk (st := sByMarks) lLM cLM kLM
  have DLM := VLM.binds (ps := ["self"]) fun _ _ _ _ _ _ us hl => match us, hl with | [_], _ => rfl
  have VBI := fun_mk (st := sBodyInit) lBI cBI kBI
  have DBI := VBI.binds (ps := ["self", "given", "rows"]) fun _ _ _ _ _ _ us hl => match us, hl with | [_, _, _], _ => rfl
  have Z_isinstance := PySem.W.mg_none_of X G z_isinstance
  have Z_int := PySem.W.mg_none_of X G z_int
  have Z_bool := PySem.W.mg_none_of X G z_bool
  have Z_str := PySem.W.mg_none_of X G z_str
  have Z_list := PySem.W.mg_none_of X G z_list
  have Z_tuple := PySem.W.mg_none_of X G z_tuple
  have Z_len := PySem.W.mg_none_of X G z_len
  have Z_all := PySem.W.mg_none_of X G z_all
  have Z_repr := PySem.W.mg_none_of X G z_repr
  have Z_abs := PySem.W.mg_none_of X G z_abs
  have Z_range := PySem.W.mg_none_of X G z_range
  have Z_sorted := PySem.W.mg_none_of X G z_sorted
  have Z_set := PySem.W.mg_none_of X G z_set
  have Z_zip := PySem.W.mg_none_of X G z_zip
  have Z_enumerate := PySem.W.mg_none_of X G z_enumerate
  have S_USES : ∀ H : Hp, SqT K H pUSES ((["look", "put"] : List Str).map V.str) := fun H => .inr ⟨_, _, _, x_USES, rfl, rfl, (by show 2 ≤ sizeLine; decide), (.cons ⟨_, rfl⟩ (.cons ⟨_, rfl⟩ .nil))⟩
  have S_WAYS : ∀ H : Hp, SqT K H pWAYS ((["again", "answer", "end", "fail", "leave", "shut"] : List Str).map V.str) := fun H => .inr ⟨_, _, _, x_WAYS, rfl, rfl, (by show 6 ≤ sizeLine; decide), (.cons ⟨_, rfl⟩ (.cons ⟨_, rfl⟩ (.cons ⟨_, rfl⟩ (.cons ⟨_, rfl⟩ (.cons ⟨_, rfl⟩ (.cons ⟨_, rfl⟩ .nil))))))⟩
  have S_HANDINGS : ∀ H : Hp, SqT K H pHANDINGS ((["none", "value", "state"] : List Str).map V.str) := fun H => .inr ⟨_, _, _, x_HANDINGS, rfl, rfl, (by show 3 ≤ sizeLine; decide), (.cons ⟨_, rfl⟩ (.cons ⟨_, rfl⟩ (.cons ⟨_, rfl⟩ .nil)))⟩
  have TL : LC K CL := ⟨⟨pgCL, hdCL, poCL, saCL⟩, noCL0, noCL1⟩
  have TB : BN K C := ⟨⟨pgC, hdC, poC, saC⟩, noC0, noC1, noC2, noC3, noC4⟩
  have TC : BC K C := ⟨⟨pgC, hdC, poC, saC⟩, ha, hn, ht, hm, fun n hn' => by
    simp only [List.mem_cons, List.not_mem_nil, or_false] at hn'
    rcases hn' with rfl | rfl | rfl | rfl | rfl
    · exact kit_sub kit_int (by decide +kernel)
    · exact kit_sub kit_bool (by decide +kernel)
    · exact kit_sub kit_str (by decide +kernel)
    · exact kit_sub kit_list (by decide +kernel)
    · exact kit_sub kit_tuple (by decide +kernel)⟩
  refine ⟨PySem.W.fnOf "law" "law" (defArgs sLaw) (defBody sLaw) (defScope sLaw) .none kVF30 dcF30 pmF30 anF30 cdF30 ctF30, fun s v => .of_eq rfl, fun base _ _ => ?_⟩
  have A1 : Cal l.prog w K mg base 1 "is_integer" ["thing"] (spAsk K dInt) F0 _ := ⟨ok_isInt VF0 Z_isinstance Z_int Z_bool, PySem.W.mg_of X G gF0, kF0, DF0⟩
  have A2 : Cal l.prog w K mg base 1 "is_name" ["thing"] (spAsk K dName) F1 _ := ⟨ok_isName VF1 Z_isinstance Z_str Z_len Z_all ⟨_, PySem.W.mg_of X G v_LETTERS⟩ ⟨_, PySem.W.mg_of X G v_LONGEST⟩, PySem.W.mg_of X G gF1, kF1, DF1⟩
  have A3 : Cal l.prog w K mg base 1 "is_one_of" ["thing", "words"] (spOne K) F2 _ := ⟨ok_isOne VF2 Z_isinstance Z_str, PySem.W.mg_of X G gF2, kF2, DF2⟩
  have A3L : Cal l.prog w K mg base 1 "is_one_of" ["thing", "words"] spOneL F2 _ := ⟨ok_isOneL VF2 Z_isinstance Z_str, PySem.W.mg_of X G gF2, kF2, DF2⟩
  have A4 : Cal l.prog w K mg base 2 "is_use" ["thing"] (spAsk K (dOne ["look", "put"])) F3 _ := ⟨ok_isUse VF3 (PySem.W.mg_of X G u_USES) S_USES A3.ok A3.mg A3.kp A3.bd, PySem.W.mg_of X G gF3, kF3, DF3⟩
  have A5 : Cal l.prog w K mg base 2 "is_way" ["thing"] (spAsk K (dOne ["again", "answer", "end", "fail", "leave", "shut"])) F4 _ := ⟨ok_isWay VF4 (PySem.W.mg_of X G u_WAYS) S_WAYS A3.ok A3.mg A3.kp A3.bd, PySem.W.mg_of X G gF4, kF4, DF4⟩
  have A6 : Cal l.prog w K mg base 2 "is_handing" ["thing"] (spAsk K (dOne ["none", "value", "state"])) F5 _ := ⟨ok_isHand VF5 (PySem.W.mg_of X G u_HANDINGS) S_HANDINGS A3.ok A3.mg A3.kp A3.bd, PySem.W.mg_of X G gF5, kF5, DF5⟩
  have A5L : Cal l.prog w K mg base 2 "is_way" ["thing"] spAskL F4 _ := ⟨ok_isWayL VF4 (PySem.W.mg_of X G u_WAYS) A3L.ok A3L.mg A3L.kp A3L.bd, PySem.W.mg_of X G gF4, kF4, DF4⟩
  have A7 : Cal l.prog w K mg base 1 "is_list" ["thing"] (spAsk K dList) F6 _ := ⟨ok_isList VF6 Z_isinstance Z_list Z_tuple, PySem.W.mg_of X G gF6, kF6, DF6⟩
  have A8 : Cal l.prog w K mg base 2 "are_names" ["thing", "most"] (spNames K) F7 _ := ⟨ok_areNames VF7 Z_len Z_all A7.ok A7.mg A7.kp A7.bd A2.ok A2.mg A2.kp A2.bd, PySem.W.mg_of X G gF7, kF7, DF7⟩
  have A9 : Cal l.prog w K mg base 2 "is_address" ["thing"] (spAsk K dAddr) F8 _ := ⟨ok_isAddr VF8 Z_isinstance Z_tuple Z_len Z_all A1.ok A1.mg A1.kp A1.bd, PySem.W.mg_of X G gF8, kF8, DF8⟩
  have B1 : Cal l.prog w K mg base 2 "are_rows" ["thing"] (spYes []) F9 _ := ⟨ok_rows VF9 Z_all A7, PySem.W.mg_of X G gF9, kF9, DF9⟩
  have B2 : Cal l.prog w K mg base 1 "all_rows" ["rows"] spNew F10 _ := ⟨ok_all VF10, PySem.W.mg_of X G gF10, kF10, DF10⟩
  have B3 : Cal l.prog w K mg base 2 "names_in" ["rows"] spNew F11 _ := ⟨ok_namesIn VF11 Z_sorted Z_set B2, PySem.W.mg_of X G gF11, kF11, DF11⟩
  have B4 : Cal l.prog w K mg base 2 "marks_in" ["rows"] spNew F12 _ := ⟨ok_marks VF12 B2, PySem.W.mg_of X G gF12, kF12, DF12⟩
  have B5 : Cal l.prog w K mg base 2 "count" ["rows"] spZero F13 _ := ⟨ok_count VF13 Z_len B2, PySem.W.mg_of X G gF13, kF13, DF13⟩
  have B6 : Cal l.prog w K mg base 1 "depth" ["rows"] spZero F14 _ := ⟨ok_depth VF14 Z_len, PySem.W.mg_of X G gF14, kF14, DF14⟩
  have B7 : Cal l.prog w K mg base 3 "need_room" ["given", "rows"] (spDone [.str "a"]) F15 _ := ⟨ok_room VF15 Z_len Z_set ⟨_, PySem.W.mg_of X G v_MOST_ROWS⟩ ⟨_, PySem.W.mg_of X G v_MOST_DEPTH⟩ ⟨_, PySem.W.mg_of X G v_MOST_NAMES⟩ B5 B6 B3, PySem.W.mg_of X G gF15, kF15, DF15⟩
  have B8 : Cal l.prog w K mg base 3 "need_single_marks" ["rows"] spDone1 F16 _ := ⟨ok_single VF16 Z_sorted Z_zip B4, PySem.W.mg_of X G gF16, kF16, DF16⟩
  have MA : Meth K CL "addresses" LA := ⟨meLA, fnLA, kLA⟩
  have MM : Meth K CL "by_marks" LM := ⟨meLM, fnLM, kLM⟩
  have MP : Meth K CL "_place" LP := ⟨meLP, fnLP, kLP⟩
  have OA := ok_addrs (Pg := l.prog) (w := w) (base := base) VLA Z_sorted TL
  have OM := ok_byMarks (Pg := l.prog) (w := w) (mg := mg) (base := base) VLM TL MA OA DLA
  have OP := ok_place (Pg := l.prog) (w := w) (base := base) VLP TL Z_enumerate
  have OL := ok_layInit (Pg := l.prog) (w := w) (base := base) VLI TL Z_tuple MP OP DLP
  have B9 : Cal l.prog w K mg base 2 "need_last" ["layout"] (spLayN CL) F17 _ := ⟨ok_needLast VF17 TL MA OA DLA, PySem.W.mg_of X G gF17, kF17, DF17⟩
  have B10 : Cal l.prog w K mg base 2 "need_loops" ["layout"] (spLayN CL) F18 _ := ⟨ok_needLoops VF18 TL MA OA DLA, PySem.W.mg_of X G gF18, kF18, DF18⟩
  have B11 : Cal l.prog w K mg base 3 "are_given" ["thing"] (spYes [.str "a"]) F19 _ := ⟨ok_given VF19 Z_len Z_set ⟨_, PySem.W.mg_of X G v_MOST_GIVEN⟩ A8, PySem.W.mg_of X G gF19, kF19, DF19⟩
  have OB := ok_bodyInit (Pg := l.prog) (w := w) (base := base) VBI TB TL Z_tuple Z_sorted B11 B1 B7 B8 (PySem.W.mg_of X G gCL) ⟨mkCL, inCL, ifCL, kpCL⟩ OL DLI B9 B10 MA OA DLA MM OM DLM
  have E1 : Cal l.prog w K mg base 1 "_law_bag" ["_law_script"] (spBag K) F20 _ := ⟨ok_bag VF20 Z_abs, PySem.W.mg_of X G gF20, kF20, DF20⟩
  have E2 : Cal l.prog w K mg base 1 "_law_take" ["_law_bag_here", "_law_many"] spTake F21 _ := ⟨ok_take VF21 Z_len Z_int, PySem.W.mg_of X G gF21, kF21, DF21⟩
  have E3 : CalG l.prog w K mg base 2 "_law_alike" ["_law_found", "_law_due"] spAlike F22 _ := ⟨ok_alike VF22 Z_repr, PySem.W.mg_of X G gF22, kF22, DF22⟩
  have E4 : Cal l.prog w K mg base 2 "_law_names" ["_law_bag_here", "_law_many"] spNm F23 _ := ⟨ok_names VF23 Z_range Z_int Z_sorted E2, PySem.W.mg_of X G gF23, kF23, DF23⟩
  have E5 : Cal l.prog w K mg base 1 "_law_is_word" ["_law_thing_here"] (spAsk K dName) F24 _ := ⟨ok_lWord VF24 Z_isinstance Z_str Z_len, PySem.W.mg_of X G gF24, kF24, DF24⟩
  have E6 : Cal l.prog w K mg base 2 "_law_text" ["_law_bag_here"] spText F25 _ := ⟨ok_text VF25 Z_len E2, PySem.W.mg_of X G gF25, kF25, DF25⟩
  have E7 : Cal l.prog w K mg base 5 "_law_thing" ["_law_bag_here", "_law_deep"] (spThing 2) F26 _ := ⟨ok_thing VF26 (PySem.W.mg_of X G gF26) kF26 DF26 Z_range Z_tuple E2 E6 2, PySem.W.mg_of X G gF26, kF26, DF26⟩
  have E8 : Cal l.prog w K mg base 2 "_law_address" ["_law_bag_here"] spAddr F27 _ := ⟨ok_addr VF27 Z_range Z_tuple Z_list Z_len E2, PySem.W.mg_of X G gF27, kF27, DF27⟩
  have E9 : Cal l.prog w K mg base 1 "_law_is_int" ["_law_thing_here"] (spAsk K dInt) F28 _ := ⟨ok_lInt VF28 Z_isinstance Z_int Z_bool, PySem.W.mg_of X G gF28, kF28, DF28⟩
  have E10 : CalG l.prog w K mg base 3 "_law_right" ["_law_thing_here", "_law_upto"] spRight F29 _ := ⟨ok_right VF29 ⟨Z_isinstance, Z_str, Z_list, Z_tuple, Z_len, Z_int, ⟨_, _, E9⟩, ⟨_, _, E5⟩, ⟨_, _, E3⟩, ⟨_, _, A1⟩, ⟨_, _, A2⟩, ⟨_, _, A4⟩, ⟨_, _, A5⟩, ⟨_, _, A6⟩, ⟨_, _, A8⟩, ⟨_, _, A9⟩⟩, PySem.W.mg_of X G gF29, kF29, DF29⟩
  exact ok_law VF30 Z_range Z_repr E1 E2 E7 E8 E4 E10 A1 A2 A8 A9 A5L (PySem.W.mg_of X G gC) TC ⟨mkC, inC, ifC, kpC⟩ OB DBI
end
end K11
end L2
open PySem PySem.W PyProof.Rows in
set_option maxRecDepth 100000 in
set_option maxHeartbeats 0 in
theorem PySem.Challenge.cw_cutoutpieces_k11_words_of_any_value_holds : PySem.Challenge.rw_cutoutpieces_k11_words_of_any_value.Holds := by
  w_on; o_law; k_head; (case hw => w_witness2)
  k_fill
  refine L2.KG.walkG (l := PySem.Challenge.rw_cutoutpieces_k11_words_of_any_value) (n := 63) (lev := 9) (x := "_law_script") (sp := fun K => L2.K11.spLaw K) rfl (by decide) rfl ⟨rfl, by decide, by decide⟩ ?hi ?hk (fun w h Y => PySem.W.kIn_of Y) ?F ?sp
  case hi => first | rfl | decide +kernel
  case hk => intro p; first | rfl | k_is | decide +kernel
  case sp => exact fun K H a ns hl mo hS => ⟨a, ns, rfl, hS, hl, mo, fun _ => rfl⟩
  case F =>
    intro w mg fa h KX G hmg
    refine' L2.K11.all_mk KX G hmg ?h_gF0 ?h_lF0 ?h_cF0 ?h_kF0 ?h_gF1 ?h_lF1 ?h_cF1 ?h_kF1 ?h_gF2 ?h_lF2 ?h_cF2 ?h_kF2 ?h_gF3 ?h_lF3 ?h_cF3 ?h_kF3 ?h_gF4 ?h_lF4 ?h_cF4 ?h_kF4 ?h_gF5 ?h_lF5 ?h_cF5 ?h_kF5 ?h_gF6 ?h_lF6 ?h_cF6 ?h_kF6 ?h_gF7 ?h_lF7 ?h_cF7 ?h_kF7 ?h_gF8 ?h_lF8 ?h_cF8 ?h_kF8 ?h_gF9 ?h_lF9 ?h_cF9 ?h_kF9 ?h_gF10 ?h_lF10 ?h_cF10 ?h_kF10 ?h_gF11 ?h_lF11 ?h_cF11 ?h_kF11 ?h_gF12 ?h_lF12 ?h_cF12 ?h_kF12 ?h_gF13 ?h_lF13 ?h_cF13 ?h_kF13 ?h_gF14 ?h_lF14 ?h_cF14 ?h_kF14 ?h_gF15 ?h_lF15 ?h_cF15 ?h_kF15 ?h_gF16 ?h_lF16 ?h_cF16 ?h_kF16 ?h_gF17 ?h_lF17 ?h_cF17 ?h_kF17 ?h_gF18 ?h_lF18 ?h_cF18 ?h_kF18 ?h_gF19 ?h_lF19 ?h_cF19 ?h_kF19 ?h_gF20 ?h_lF20 ?h_cF20 ?h_kF20 ?h_gF21 ?h_lF21 ?h_cF21 ?h_kF21 ?h_gF22 ?h_lF22 ?h_cF22 ?h_kF22 ?h_gF23 ?h_lF23 ?h_cF23 ?h_kF23 ?h_gF24 ?h_lF24 ?h_cF24 ?h_kF24 ?h_gF25 ?h_lF25 ?h_cF25 ?h_kF25 ?h_gF26 ?h_lF26 ?h_cF26 ?h_kF26 ?h_gF27 ?h_lF27 ?h_cF27 ?h_kF27 ?h_gF28 ?h_lF28 ?h_cF28 ?h_kF28 ?h_gF29 ?h_lF29 ?h_cF29 ?h_kF29 ?h_gF30 ?h_lF30 ?h_cF30 ?h_kF30 ?h_gC ?h_pgC ?h_hdC ?h_poC ?h_saC ?h_mkC ?h_inC ?h_ifC ?h_kpC ?h_noC0 ?h_noC1 ?h_noC2 ?h_noC3 ?h_noC4 ?h_gCL ?h_pgCL ?h_hdCL ?h_poCL ?h_saCL ?h_mkCL ?h_inCL ?h_ifCL ?h_kpCL ?h_noCL0 ?h_noCL1 ?h_meLP ?h_fnLP ?h_meLA ?h_fnLA ?h_meLM ?h_fnLM ?h_lLI ?h_cLI ?h_kLI ?h_lLP ?h_cLP ?h_kLP ?h_lLA ?h_cLA ?h_kLA ?h_lLM ?h_cLM ?h_kLM ?h_lBI ?h_cBI ?h_kBI ?h_ha ?h_hn ?h_ht ?h_hm ?h_kit_int ?h_kit_bool ?h_kit_str ?h_kit_list ?h_kit_tuple ?h_z_isinstance ?h_z_int ?h_z_bool ?h_z_str ?h_z_list ?h_z_tuple ?h_z_len ?h_z_all ?h_z_repr ?h_z_abs ?h_z_range ?h_z_sorted ?h_z_set ?h_z_zip ?h_z_enumerate ?h_v_LETTERS ?h_v_LONGEST ?h_v_MOST_GIVEN ?h_v_MOST_ROWS ?h_v_MOST_DEPTH ?h_v_MOST_NAMES ?h_u_USES ?h_x_USES ?h_u_WAYS ?h_x_WAYS ?h_u_HANDINGS ?h_x_HANDINGS
    (case h_gF0 => k_is)
    (case h_lF0 => k_is)
    (case h_cF0 => k_is)
    (case h_kF0 => k_is)
    (case h_gF1 => k_is)
    (case h_lF1 => k_is)
    (case h_cF1 => k_is)
    (case h_kF1 => k_is)
    (case h_gF2 => k_is)
    (case h_lF2 => k_is)
    (case h_cF2 => k_is)
    (case h_kF2 => k_is)
    (case h_gF3 => k_is)
    (case h_lF3 => k_is)
    (case h_cF3 => k_is)
    (case h_kF3 => k_is)
    (case h_gF4 => k_is)
    (case h_lF4 => k_is)
    (case h_cF4 => k_is)
    (case h_kF4 => k_is)
    (case h_gF5 => k_is)
    (case h_lF5 => k_is)
    (case h_cF5 => k_is)
    (case h_kF5 => k_is)
    (case h_gF6 => k_is)
    (case h_lF6 => k_is)
    (case h_cF6 => k_is)
    (case h_kF6 => k_is)
    (case h_gF7 => k_is)
    (case h_lF7 => k_is)
    (case h_cF7 => k_is)
    (case h_kF7 => k_is)
    (case h_gF8 => k_is)
    (case h_lF8 => k_is)
    (case h_cF8 => k_is)
    (case h_kF8 => k_is)
    (case h_gF9 => k_is)
    (case h_lF9 => k_is)
    (case h_cF9 => k_is)
    (case h_kF9 => k_is)
    (case h_gF10 => k_is)
    (case h_lF10 => k_is)
    (case h_cF10 => k_is)
    (case h_kF10 => k_is)
    (case h_gF11 => k_is)
    (case h_lF11 => k_is)
    (case h_cF11 => k_is)
    (case h_kF11 => k_is)
    (case h_gF12 => k_is)
    (case h_lF12 => k_is)
    (case h_cF12 => k_is)
    (case h_kF12 => k_is)
    (case h_gF13 => k_is)
    (case h_lF13 => k_is)
    (case h_cF13 => k_is)
    (case h_kF13 => k_is)
    (case h_gF14 => k_is)
    (case h_lF14 => k_is)
    (case h_cF14 => k_is)
    (case h_kF14 => k_is)
    (case h_gF15 => k_is)
    (case h_lF15 => k_is)
    (case h_cF15 => k_is)
    (case h_kF15 => k_is)
    (case h_gF16 => k_is)
    (case h_lF16 => k_is)
    (case h_cF16 => k_is)
    (case h_kF16 => k_is)
    (case h_gF17 => k_is)
    (case h_lF17 => k_is)
    (case h_cF17 => k_is)
    (case h_kF17 => k_is)
    (case h_gF18 => k_is)
    (case h_lF18 => k_is)
    (case h_cF18 => k_is)
    (case h_kF18 => k_is)
    (case h_gF19 => k_is)
    (case h_lF19 => k_is)
    (case h_cF19 => k_is)
    (case h_kF19 => k_is)
    (case h_gF20 => k_is)
    (case h_lF20 => k_is)
    (case h_cF20 => k_is)
    (case h_kF20 => k_is)
    (case h_gF21 => k_is)
    (case h_lF21 => k_is)
    (case h_cF21 => k_is)
    (case h_kF21 => k_is)
    (case h_gF22 => k_is)
    (case h_lF22 => k_is)
    (case h_cF22 => k_is)
    (case h_kF22 => k_is)
    (case h_gF23 => k_is)
    (case h_lF23 => k_is)
    (case h_cF23 => k_is)
    (case h_kF23 => k_is)
    (case h_gF24 => k_is)
    (case h_lF24 => k_is)
    (case h_cF24 => k_is)
    (case h_kF24 => k_is)
    (case h_gF25 => k_is)
    (case h_lF25 => k_is)
    (case h_cF25 => k_is)
    (case h_kF25 => k_is)
    (case h_gF26 => k_is)
    (case h_lF26 => k_is)
    (case h_cF26 => k_is)
    (case h_kF26 => k_is)
    (case h_gF27 => k_is)
    (case h_lF27 => k_is)
    (case h_cF27 => k_is)
    (case h_kF27 => k_is)
    (case h_gF28 => k_is)
    (case h_lF28 => k_is)
    (case h_cF28 => k_is)
    (case h_kF28 => k_is)
    (case h_gF29 => k_is)
    (case h_lF29 => k_is)
    (case h_cF29 => k_is)
    (case h_kF29 => k_is)
    (case h_gF30 => k_is)
    (case h_lF30 => k_is)
    (case h_cF30 => k_is)
    (case h_kF30 => k_is)
    (case h_gC => k_is)
    (case h_pgC => k_is)
    (case h_hdC => k_is)
    (case h_poC => k_is)
    (case h_saC => k_is)
    (case h_mkC => k_is)
    (case h_inC => k_is)
    (case h_ifC => k_is)
    (case h_kpC => k_is)
    (case h_noC0 => k_is)
    (case h_noC1 => k_is)
    (case h_noC2 => k_is)
    (case h_noC3 => k_is)
    (case h_noC4 => k_is)
    (case h_gCL => k_is)
    (case h_pgCL => k_is)
    (case h_hdCL => k_is)
    (case h_poCL => k_is)
    (case h_saCL => k_is)
    (case h_mkCL => k_is)
    (case h_inCL => k_is)
    (case h_ifCL => k_is)
    (case h_kpCL => k_is)
    (case h_noCL0 => k_is)
    (case h_noCL1 => k_is)
    (case h_meLP => k_is)
    (case h_fnLP => k_is)
    (case h_meLA => k_is)
    (case h_fnLA => k_is)
    (case h_meLM => k_is)
    (case h_fnLM => k_is)
    (case h_lLI => k_is)
    (case h_cLI => k_is)
    (case h_kLI => k_is)
    (case h_lLP => k_is)
    (case h_cLP => k_is)
    (case h_kLP => k_is)
    (case h_lLA => k_is)
    (case h_cLA => k_is)
    (case h_kLA => k_is)
    (case h_lLM => k_is)
    (case h_cLM => k_is)
    (case h_kLM => k_is)
    (case h_lBI => k_is)
    (case h_cBI => k_is)
    (case h_kBI => k_is)
    (case h_ha => k_is)
    (case h_hn => k_is)
    (case h_ht => k_is)
    (case h_hm => k_is)
    (case h_kit_int => k_is)
    (case h_kit_bool => k_is)
    (case h_kit_str => k_is)
    (case h_kit_list => k_is)
    (case h_kit_tuple => k_is)
    (case h_z_isinstance => k_is)
    (case h_z_int => k_is)
    (case h_z_bool => k_is)
    (case h_z_str => k_is)
    (case h_z_list => k_is)
    (case h_z_tuple => k_is)
    (case h_z_len => k_is)
    (case h_z_all => k_is)
    (case h_z_repr => k_is)
    (case h_z_abs => k_is)
    (case h_z_range => k_is)
    (case h_z_sorted => k_is)
    (case h_z_set => k_is)
    (case h_z_zip => k_is)
    (case h_z_enumerate => k_is)
    (case h_v_LETTERS => k_is)
    (case h_v_LONGEST => k_is)
    (case h_v_MOST_GIVEN => k_is)
    (case h_v_MOST_ROWS => k_is)
    (case h_v_MOST_DEPTH => k_is)
    (case h_v_MOST_NAMES => k_is)
    (case h_u_USES => k_is)
    (case h_x_USES => k_is)
    (case h_u_WAYS => k_is)
    (case h_x_WAYS => k_is)
    (case h_u_HANDINGS => k_is)
    (case h_x_HANDINGS => k_is)
#print axioms PySem.Challenge.cw_cutoutpieces_k11_words_of_any_value_holds
