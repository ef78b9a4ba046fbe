import PyProof.Rows.All
import Wide.All
import OpenK.AllK
import Wide.FinOn
import PySem.Challenge.RW_linkorder_k70_programs_as_text
import HandS.ForMost
import HandS.ExcInit
import HandS.ExcIs
import HandS.ExcValue
import HandS.IsInst
import HandS.Evl
import KE.KExcIs
import PyProof.ReprRoads
import HandS.Strs
import HandS.SetKeys
import HandS.SetBool
import KE.SortData
import HandS.SetFor
import HandS.DictComp
import HandS.Zip
import HandS.TupAny
import HandS.Defaults
import HandS.MakeKw
import HandS.OwnEq
import PyProof.AutoSeq1
import HandS.Style
import PyProof.P3In
import HandS.Text
import HandS.StrMore
import HandS.Deep
import HandS.Flow
import KE.GoesEnum
import KE.KDictList
import HandS.ListItems
import HandS.MakeKwOnly
import PyProof.InstNe
import HandS.Exc
import HandS.WordsExc
import HandS.Lambda
import HandS.EndTab
import HandS.TupMul
import HandS.RaiseMore
import HandS.TryOnly
import KE.KUnpackStar
import HandS.Star
import HandS.CallLocal
import HandS.Walk
set_option Elab.async false
set_option linter.all false
set_option maxRecDepth 100000
set_option maxHeartbeats 4000000
namespace LK
open PySem PySem.Spec PyProof.Rows L2
theorem upd_upd {H : Hp} {a : Addr} {o u : HO} : upd (upd H a o) a u = upd H a u := by
  funext b
  by_cases e : b = a
  · subst e
    rw [upd_same, upd_same]
  · rw [upd_ne e, upd_ne e, upd_ne e]
section
variable {X : Cx}
/-- xs[i], t[i] of what is tracked -/
def rIxLH : R2 := fun x y H Q => ∃ p xs i v, x = .ref p ∧ y = .int i ∧ H p = some (.lst xs) ∧ atI xs i = some v ∧ Q v H
theorem ix_listH : IxR X rIxLH := fun value slice pins s σ H x y v u Q I rx ry h => ix_list value slice pins s σ H x y v u Q I rx ry (by
  obtain ⟨p, xs, i, z, e1, e2, hh, ha, q⟩ := h
  exact ⟨p, xs, i, z, e1, e2, SqL.of hh, ha, q⟩)
def rIxTH : R2 := fun x y H Q => ∃ p xs i v, x = .ref p ∧ y = .int i ∧ H p = some (.tup xs) ∧ atI xs i = some v ∧ Q v H
theorem ix_tupH : IxR X rIxTH := fun value slice pins s σ H x y v u Q I rx ry h => ix_tup value slice pins s σ H x y v u Q I rx ry (by
  obtain ⟨p, xs, i, z, e1, e2, hh, ha, q⟩ := h
  exact ⟨p, xs, i, z, e1, e2, SqT.of hh, ha, q⟩)
/-- i ** j of great numbers -/
def CPowW (i j : Int) : Prop := 0 ≤ j ∧ (Builtin.Int.intBits i : Int) * j ≤ 2 ^ 27
theorem op_powW : OpR X (binaryOp .Pow) (rI CPowW fun i j => .int (i ^ j.toNat)) := opI fun _ _ _ _ _ _ _ hc q => pow_int hc.1 hc.2 q
end

/-! ### errors as values -/
/-- an error of the class cls at a, its own dict at d or none -/
def ErrO (cls : Value) (d : Option Addr) (a : Addr) : HO := .ext fun h => ∃ (oe : Obj) (vs : Array Value), h.get? a = some oe ∧ Zc cls d oe ∧ oe.data = .fields vs
theorem errO_ok {P : Program} {w : World} {H : Hp} {h : Heap} {a : Addr} {cls : Value} {d : Option Addr} {oe : Obj} {vs : Array Value} (e : h.get? a = some oe) (z : Zc cls d oe) (f : oe.data = .fields vs) : ObjOk P w H h a (ErrO cls d a) :=
  ⟨⟨oe, vs, e, z, f⟩, ⟨oe, e⟩, fun _ _ x k => by
    obtain ⟨o, v, q, r⟩ := x
    exact ⟨o, v, k o q, r⟩⟩
section
variable {X : Cx}
/-- what makes an error, as a value -/
theorem pe_of_pmk {e : Expr} {t : L2.St → Hp → XK → Prop} (hm : PMk X e t) : PE X e (fun σ H Q => t σ H fun cls d H1 => ∀ a, H1 a = none → Q (.ref a) (upd H1 a (ErrO cls d a))) := by
  refine ⟨fun pins s σ H Q I h => ?_⟩
  refine wpAny_mono (hm pins s σ H _ I h) (fun u s1 hu => ?_) fun _ _ x => x
  obtain ⟨a, oe, vs, sI, H1, cls, d, rfl, J, k, hne, ha, hz, hd, _, na, os, ag, _, q⟩ := hu
  have J1 := J.laidN (t' := s1.toks) k hne na (errO_ok (P := X.prog) (w := X.w) (H := upd H1 a (ErrO cls d a)) ha hz hd)
  obtain ⟨h0, g0, d0, t0, o0⟩ := sI
  obtain ⟨h1, g1, d1, t1, o1⟩ := s1
  refine ⟨.ref a, _, ⟨J1.ok, os.trans J1.os, ag, J1.base, J1.loc, J1.cell, J1.free, J1.freeC, J1.pin, J1.hok, J1.len⟩, rfl, q a na⟩
/-- C(), a class without own __init__ -/
theorem pe_err0 {C : Addr} {bmB : List Value} {B newId initId : String} {x : Str} {p pos : Pos} (F : ExcBaseFacts B newId initId bmB) (q : PySem.W.excIn X.K C bmB newId = true) (gC : X.mg x = some (.ref C)) (kC : PySem.W.keepIn X.K (.ref C) = true) (hg : Gl X x)
    (hdb : (x == ("__debug__" : Str)) = false := by decide) : PE X (.Call (.Name x p) [] [] pos) (fun _ H Q => ∀ a, H a = none → Q (.ref a) (upd H a (ErrO (.ref C) none a))) := by
  refine ⟨fun pins s σ H Q I h => ?_⟩
  refine wpAny_Call_Name_kw (ld_glob I hg gC ?_ hdb)
  refine PySem.W.callWith_K0 I.kIn kC ?_
  obtain ⟨bm, N, nm, qn, bs, hdct, sn, sub, ab, col, dd, k0, k1, k2, k3, k5, mN, hC, hN, hni, T⟩ := exc_obj I.kIn q
  obtain ⟨h0, g0, d0, t0, o0⟩ := s
  refine wpAny_call_exc_subT F T hC hN hni (fun h1 a hm => ?_) (Nat.zero_le _)
  have hn : H a = none := I.hok.gone hm.new
  obtain ⟨t, ht, _, _⟩ := hm.there
  exact ⟨.ref a, _, I.laidN hm.keeps hm.new hn (errO_ok ht ⟨rfl, rfl⟩ rfl), rfl, h a hn⟩
/-- what the class says, so that a field is read of an error -/
structure ErrF (K : PySem.W.Frag) (C : Addr) (f : Str) : Prop where
  ga : PySem.W.findIn K (.ref C) "__getattribute__" = some (some (.builtin "BaseException.__getattribute__"))
  gg : PySem.W.findIn K (.ref C) "__getattr__" = some none
  ex : PySem.W.subIn K (.ref C) (.type "BaseException") = some true
  hd : PySem.W.hasDictIn K C = true
  no : PySem.W.findIn K (.ref C) f = some none
theorem err_inst {pins : List (Addr × Obj)} {σ : L2.St} {H : Hp} {s : Shared} {a d C : Addr} {fs : List (Str × V)} (I : Inv X pins σ H s) (ha : H a = some (ErrO (.ref C) (some d) a)) (hd : H d = some (.xd fs)) :
    ∃ oe od mA, PySem.W.InstAt s.heap a oe C (some od) ∧ s.heap.Ns1 d mA ∧ (∀ f, RelO (fs.lookup f) (mA f)) ∧ s.heap.get? d = some od ∧ ∀ f, PySem.W.lookIn f od = some (mA f) := by
  have h1 : ObjOk X.prog X.w H s.heap a (ErrO (.ref C) (some d) a) := I.hok a _ ha
  obtain ⟨⟨oe, vs, ho, hz, hv⟩, _, _⟩ := h1
  have h2 : ObjOk X.prog X.w H s.heap d (.xd fs) := I.hok d _ hd
  obtain ⟨mA, hns, rel⟩ := h2
  obtain ⟨od, hod, look⟩ := lookIn_ns hns
  exact ⟨oe, od, mA, ⟨ho, hz.1, by unfold PySem.W.notCls; rw [hv] <;> rfl, by rw [hz.2]; exact hod⟩, hns, rel, hod, look⟩
/-- e.f of an error -/
def tErrF (K : PySem.W.Frag) (f : Str) (te : TE) : TE := fun σ H Q => te σ H fun x H1 => ∃ (a C d : Addr) (fs : List (Str × V)) (v : V), x = .ref a ∧ H1 a = some (ErrO (.ref C) (some d) a) ∧ H1 d = some (.xd fs) ∧ fs.lookup f = some v ∧ ErrF K C f ∧ Q v H1
theorem pe_errF {e : Expr} {te : TE} {f : Str} {pos : Pos} (he : PE X e te) (hb : attributeBase e f X.env (eval e X.env) = eval e X.env := by rfl) : PE X (.Attribute e f pos) (tErrF X.K f te) := by
  refine ⟨fun pins s σ H Q I h => ?_⟩
  refine attr_of hb (thn (he.run pins s σ H _ I h) fun u s1 hh => ?_)
  obtain ⟨x, H1, I1, rx, a, C, d, fs, v, rfl, ha, hd, hl, T, q⟩ := hh
  cases rx
  obtain ⟨oe, od, mA, J, hns, rel, hod, look⟩ := err_inst I1 ha hd
  obtain ⟨u, hu, ru⟩ := RelO.some_of (v := v) (o := mA f) (by rw [← hl]; exact rel f)
  exact HandSPX.exc_get I1.kIn J T.ga T.gg T.ex (PySem.W.findObj_own T.hd T.no rfl (by rw [look, hu])) (handed_of ru) ⟨v, H1, I1.tok _, ru, q⟩
/-- isinstance(e, c) of an error -/
def rIsErr (K : PySem.W.Frag) : List V → Hp → VK → Prop := fun xs H Q => ∃ (a D : Addr) (d : Option Addr) (c : V) (cv : Value) (b : Bool), xs = [.ref a, c] ∧ H a = some (ErrO (.ref D) d a) ∧ (∀ x, d = some x → ∃ fs, H x = some (.xd fs)) ∧ ExcC K D ∧ (∀ u, RelV c u → u = cv) ∧ PySem.W.kitOne K (.ref D) cv = some b ∧ Q (.bl b) H
theorem call_isErr : CallR X (.builtin "isinstance") (rIsErr X.K) := by
  intro pins s σ H xs us Q I r h
  obtain ⟨a, D, d, c, cv, b, rfl, ha, hd, C, hcv, e, q⟩ := h
  cases r with
  | cons rx rr =>
    cases rr with
    | cons rt rr =>
      cases rr
      cases rx
      have ec := hcv _ rt
      subst ec
      have hcl : (PySem.W.clsIn X.K D).isSome = true := by
        obtain ⟨cd, hc, _⟩ := PySem.W.any_some C.hd
        rw [hc]
        rfl
      have fin : ∀ {oe : Obj} {od : Option Obj}, PySem.W.InstAt s.heap a oe D od → wpAny (model X.prog X.w) X.A (call (.builtin "isinstance") [.ref a, _]) (EP X pins σ Q) X.xe s := fun J =>
        PySem.W.kia_one (PySem.W.kitx_exc hcl C.hg C.hk C.hs C.ha C.hn C.ht C.hm) I.kIn J e (fun z => nomatch z) fun tk => ⟨.bl b, H, I.kept (t' := tk) fun _ _ z => z, rfl, q⟩
      cases d with
      | some d =>
        obtain ⟨fs, hx⟩ := hd d rfl
        obtain ⟨oe, od, mA, J, _⟩ := err_inst I ha hx
        exact fin J
      | none =>
        have h1 : ObjOk X.prog X.w H s.heap a (ErrO (.ref D) none a) := I.hok a _ ha
        obtain ⟨⟨oe, vs, ho, hz, hv⟩, _, _⟩ := h1
        exact fin (od := none) ⟨ho, hz.1, by unfold PySem.W.notCls; rw [hv] <;> rfl, by rw [hz.2]; trivial⟩
end
end LK
namespace LK
open PySem PySem.Spec PyProof.Rows L2
/-! ### a def that is called where no repr is under way -/
/-- as FnOk, for callers under whom nothing is being shown -/
structure FnG (P : Program) (w : World) (K : PySem.W.Frag) (mg : Str → Option Value) (base : Heap) (CX : CXT) (k : Nat) (f : Addr) (fd : FuncData) (ps : List Str) (sp : Sp) : Prop where
  len : ∀ vs H Q E, sp vs H Q E → vs.length = ps.length
  go : ∀ (A : Around), A.guards = some [] → Room k A → ∀ (outer : List Env) (s : Shared) (H : Hp) (args : Args) (us : List Value) (vs : List V) (Q : VK) (E : XK),
    Env0 P w K mg base A outer s H → BindsTo s fd args (ps.zip us) → Vals vs us → sp vs H Q E → codeAny (model P w) A (.call (.ref f) args) (CR CX outer P w H s Q E) s
section
variable {P : Program} {w : World} {K : PySem.W.Frag} {mg : Str → Option Value} {base : Heap}
/-- from the body, where nothing is being shown -/
theorem FnG.of {x qual : Str} {st : Stmt} {f : Addr} {fd : FuncData} {N ps : List Str} {k : Nat} {sp : Sp} (F : Fun K x qual st f fd) (S : FnScope N ps (defScope st)) (len : ∀ vs H Q E, sp vs H Q E → vs.length = ps.length)
    (body : ∀ (cdv : Value) (A : Around), A.guards = some [] → ∀ (outer : List Env) (s : Shared) (H : Hp) (vs : List V) (Q : VK) (E : XK), Room k (A.deeper (envOfC qual (defScope st) s.heap.objs.size f cdv)) → sp vs H Q E →
      ∃ t, PSs (cxOf CX0 P w K mg base N qual (defScope st) f cdv A outer s H E).nox (defBody st) t ∧ t { nx := fun _ H1 => Q .non H1, rt := Q } (L2.start N vs) H) : FnG P w K mg base CX0 (k + 1) f fd ps sp := by
  obtain ⟨oc, od, kV, doc, pm, an, cdv, ct, osl, rfl, lk, hcd⟩ := F.ex
  refine ⟨len, fun A hG hr outer s H args us vs Q E e0 hb r hsp => ?_⟩
  -- the promise that holds at this one place alone
  have hl := len _ _ _ _ hsp
  have inK : K.In s.heap := e0.mod.kin.keeps fun b o z => (e0.bs b o z).1
  have lim : s.heap.NoLimit := e0.mod.nolimit.keeps fun b o z => (e0.bs b o z).1
  have kinds : ∀ y ∈ ps.zip us, (defScope st).names.lookup y.1 = some .local ∨ ((defScope st).names.lookup y.1 = some .cell ∧ ((cellsFrom (s.heap.objs.size + 1) (defScope st).names []).lookup y.1).isSome = true) := fun y hy => by
    obtain ⟨n, v⟩ := y
    rcases S.par n (List.of_mem_zip hy).1 with z | z
    · exact Or.inl z
    · exact Or.inr ⟨z, PySem.W.cellsFrom_some _ _ _ (Or.inl z)⟩
  refine codeAny_call_function hr.depth (inK _ _ lk) rfl S.co S.gen rfl (PySem.W.codeRec_of inK hcd) (hb _ _ _ _ ?_)
  refine wpAny_newFunctionEnv_cells S.kind kinds fun env he s1 ic => ?_
  subst he
  refine ⟨lim.keeps ic.toInCall.keep, codeAny_func ?_⟩
  obtain ⟨t, ht, hq⟩ := body cdv A hG outer s H vs Q E (hr.deeper _) hsp
  have I0 : Inv (cxOf CX0 P w K mg base N qual (defScope st) f cdv A outer s H E) [] (L2.start N vs) H s1 := inv_start S hr.hd e0 hl r ic
  refine wpAny_mono (ht.nox.run [] s1 (L2.start N vs) H _ I0 hq) (fun fl s2 hs => ?_) fun _ _ z => z
  have out : ∀ {σ2 : L2.St} {H2 : Hp} {v : V} {u : Value}, Inv (cxOf CX0 P w K mg base N qual (defScope st) f cdv A outer s H E) [] σ2 H2 s2 → RelV v u → Q v H2 → CE outer P w H s Q u s2 :=
    fun {σ2 H2 v u} J rv z => ⟨v, H2, J.os, J.bare, J.base, J.hok, rv, z⟩
  cases fl with
  | ret u =>
    obtain ⟨v, σ2, H2, J, rv, z⟩ := hs
    exact out J rv z
  | next =>
    obtain ⟨σ2, H2, J, z⟩ := hs
    exact out (v := V.non) (u := Value.none) J rfl z
  | brk => exact hs.elim fun _ z => z.elim fun _ z => z.2.elim
  | cont => exact hs.elim fun _ z => z.elim fun _ z => z.2.elim
end
/-! ### the law's own call -/
/-- the law's promise at the heap behind the top, nothing being shown -/
theorem law_goes {P : Program} {w : World} {K : PySem.W.Frag} {mg mb : Str → Option Value} {k : Nat} {fa a : Addr} {fd : FuncData} {x : Str} {sp : Sp} {s1 : Shared} {vs : List Value} {ns : List Int}
    (KX : K.In s1.heap) (hns : s1.heap.Ns mainGlobals mg) (hb : s1.heap.Ns builtinsNs mb) (hbb : ∀ x : Str, x ≠ "__name__" → mb x = bootBuiltins x) (hlim : s1.heap.NoLimit) (hg : s1.gens = #[])
    (ha : s1.heap.get? a = some { cls := .type "list", data := .seq vs.toArray }) (hi : IntsAre vs ns) (hl : ns.length ≤ sizeLine) (hr : Room k callerA)
    (F : ∀ base : Heap, K.In base → base.Ns mainGlobals mg → FnG P w K mg base CX0 k fa fd [x] sp) (hbind : ∀ (s : Shared) (u : Value), BindsTo s fd ⟨[u], []⟩ [(x, u)])
    (hsp : ∀ H : Hp, SqL K H a (ns.map V.int) → sp [.ref a] H (fun v _ => v = .bl true) fun _ _ _ => False) :
    codeAny (model P w) callerA (.call (.ref fa) ⟨[.ref a], []⟩) (fun r s2 => r = .ok (.ret (.bool true)) ∧ OldK s1.heap s2.heap ∧ s2.os = s1.os ∧ AllBare s2.gens) s1 := by
  have rv := vals_ints hi
  have core : ∀ H : Hp, (∀ b u, H b = some u → b = a ∧ K.lookup a = none ∧ u = .frz { cls := .type "list", data := .seq vs.toArray } (.lst (ns.map V.int))) → SqL K H a (ns.map V.int) →
      codeAny (model P w) callerA (.call (.ref fa) ⟨[.ref a], []⟩) (fun r s2 => r = .ok (.ret (.bool true)) ∧ OldK s1.heap s2.heap ∧ s2.os = s1.os ∧ AllBare s2.gens) s1 := by
    intro H hH hS
    have hok : HOk P w H s1.heap := fun b u e => by
      obtain ⟨rfl, _, rfl⟩ := hH b u e
      exact ⟨ha, by rw [List.length_map]; exact hl, vs, _, rv, ha⟩
    have get : ∀ {b : Addr} {o : Obj}, s1.heap.get? b = some o → H b = none → (hidT s1.heap H).get? b = some o := fun e n => hidT_get e n
    have dictN : ∀ {b : Addr} {o : Obj} {es : Array DictEntry} {ep : Nat}, s1.heap.get? b = some o → o.data = .dict es ep → H b = none := fun {b o es ep} e d => by
      cases z : H b with
      | none => rfl
      | some u =>
        obtain ⟨rfl, _, _⟩ := hH b u z
        rw [ha] at e
        cases e
        exact nomatch d
    have spaces : ∀ {b : Addr} {m : Str → Option Value}, s1.heap.Ns b m → (hidT s1.heap H).Ns b m := fun {b m} z => by
      obtain ⟨o, es, ep, e, d, r⟩ := z
      exact ⟨o, es, ep, get e (dictN e d), d, r⟩
    have kb : K.In (hidT s1.heap H) := fun b o e => get (KX b o e) (by
      cases z : H b with
      | none => rfl
      | some u =>
        obtain ⟨rfl, n, _⟩ := hH b u z
        rw [n] at e
        cases e)
    have md : Mod K mg (hidT s1.heap H) := by
      obtain ⟨mc, z1, z2⟩ := hlim
      exact ⟨kb, spaces hns, ⟨mb, spaces hb, hbb⟩, ⟨mc, spaces z1, z2⟩⟩
    have e0 : Env0 P w K mg (hidT s1.heap H) callerA [] s1 H :=
      ⟨rfl, md, fun b o e => of_hidT e, Nat.le_of_eq (hidT_size _ _), trivial, fun b hb => (nomatch (show b ∈ ([] : List Addr) from hb)), hok, .of_eq hg⟩
    refine codeAny_mono ((F _ kb (spaces hns)).go callerA rfl hr [] s1 H ⟨[.ref a], []⟩ [.ref a] [.ref a] _ _ e0 (hbind s1 (.ref a)) (.cons rfl .nil) (hsp H hS)) fun r s2 h => ?_
    cases r with
    | error e => exact False.elim h
    | ok fl =>
      cases fl with
      | next => exact False.elim h
      | brk => exact False.elim h
      | cont => exact False.elim h
      | ret u =>
        obtain ⟨v, H2, os, bare, un, hok2, r2, q⟩ := h
        have ev : v = .bl true := q
        subst ev
        have eu : u = Value.bool true := r2
        subst eu
        refine ⟨rfl, OldK.of_keep fun b o e => ?_, os, bare⟩
        cases z : H b with
        | none => exact un.keep b o e z (fun n => (nomatch (show b ∈ ([] : List Addr) from n))) (fun n => (nomatch n))
        | some y =>
          obtain ⟨rfl, _, rfl⟩ := hH b y z
          obtain ⟨e2, _⟩ := hok2 _ _ (un.frzs _ _ _ z)
          rw [ha] at e
          cases e
          exact e2
  cases hk : K.lookup a with
  | some o =>
    have e := KX a o hk
    rw [ha] at e
    cases e
    exact core (fun _ => none) (fun b u z => (nomatch z)) (.inr ⟨_, vs.toArray, _, hk, rfl, rfl, rfl, by rw [List.size_toArray, hi.length]; exact hl, by simpa using rv⟩)
  | none =>
    refine core (fun b => if b = a then some (.frz { cls := .type "list", data := .seq vs.toArray } (.lst (ns.map V.int))) else none) (fun b u z => ?_) (.inl (.inr ⟨{ cls := .type "list", data := .seq vs.toArray }, if_pos rfl⟩))
    by_cases e : b = a
    · rw [if_pos e] at z
      cases z
      exact ⟨e, hk, rfl⟩
    · rw [if_neg e] at z
      cases z
/-- the goal that k_head leaves, from the law's promise where nothing is being shown -/
theorem walk_goes {l : PySem.W.OpenLaw} {n k : Nat} {q : Program} {loose : List Str} {XP : (Str → Option Value) → Heap → Prop} {YP : World → Heap → Prop} {d : DefRec} {K : Params → PySem.W.Frag} {sp : World → Sp} {x : Str}
    (hn : l.most = some n) (hn2 : n ≤ sizeLine) (hdf : d.params.defaults = []) (hr : Room k callerA) (hY : ∀ (w : World) (h : Heap), YP w h → (K w.params).In h)
    (F : ∀ (w : World) (mg : Str → Option Value) (fa : Addr) (h : Heap), (K w.params).In h → h.Ns mainGlobals mg → mg d.name = some (.ref fa) →
      ∃ fd : FuncData, (∀ (s : Shared) (u : Value), BindsTo s fd ⟨[u], []⟩ [(x, u)]) ∧ ∀ base : Heap, (K w.params).In base → base.Ns mainGlobals mg → FnG l.prog w (K w.params) mg base CX0 k fa fd [x] (sp w))
    (hsp : ∀ (w : World) (H : Hp) (a : Addr) (ns : List Int), ns.length ≤ n → SqL (K w.params) H a (ns.map V.int) → sp w [.ref a] H (fun v _ => v = .bl true) fun _ _ _ => False) :
    PySem.W.WalkO q loose XP YP l.row.toRowW d [] (fun f vs => PySem.call f vs) := by
  refine Att.attach_call hn hdf fun w s0 s1 mg mb fa o pm cd doc a vs ns G Y ho hd hcd hmg hobj hints hlen hg => ?_
  have KX := hY w _ Y
  obtain ⟨fd, hb, hF⟩ := F w mg fa _ KX G.T.g hmg
  exact law_goes KX G.T.g G.T.b G.T.builtins G.T.nolimit hg hobj hints (Nat.le_trans hlen hn2) hr hF hb fun H hS => hsp w H a ns hlen hS
/-! ### repr of data -/
mutual
/-- data at a value: as Dp, and the dict without entries -/
inductive Dr (H : Hp) : V → PyData → Prop
  | non : Dr H .non .none
  | bl (b : Bool) : Dr H (.bl b) (.bool b)
  | int (i : Int) : Dr H (.int i) (.int i)
  | str (x : Str) : Dr H (.str x) (.str x)
  | lst {a : Addr} {xs : List V} {ds : List PyData} : H a = some (.lst xs) → DrAll H xs ds → Dr H (.ref a) (.list ds)
  | tup {a : Addr} {xs : List V} {ds : List PyData} : H a = some (.tup xs) → DrAll H xs ds → Dr H (.ref a) (.tuple ds)
  | dct {a : Addr} : H a = some (.dK []) → Dr H (.ref a) (.dict [])
inductive DrAll (H : Hp) : List V → List PyData → Prop
  | nil : DrAll H [] []
  | cons {v : V} {vs : List V} {d : PyData} {ds : List PyData} : Dr H v d → DrAll H vs ds → DrAll H (v :: vs) (d :: ds)
end
section
variable {X : Cx} {pins : List (Addr × Obj)} {σ : L2.St} {H : Hp} {s : Shared}
mutual
theorem Dr.reads (I : Inv X pins σ H s) : ∀ (d : PyData) (v : V) (u : Value), Dr H v d → RelV v u → ∃ as, Reads s.heap u d as ∧ ∀ b ∈ as, (∃ xs, H b = some (.lst xs)) ∨ H b = some (.dK [])
  | .none, _, _, h, r => by
    cases h
    cases r
    exact ⟨_, .none, fun b z => (nomatch z)⟩
  | .bool b, _, _, h, r => by
    cases h
    cases r
    exact ⟨_, .bool b, fun b z => (nomatch z)⟩
  | .int i, _, _, h, r => by
    cases h
    obtain ⟨t, rfl⟩ := r
    exact ⟨_, .int i t, fun b z => (nomatch z)⟩
  | .str x, _, _, h, r => by
    cases h
    obtain ⟨t, rfl⟩ := r
    exact ⟨_, .str x t, fun b z => (nomatch z)⟩
  | .list ds, _, _, h, r => by
    cases h with
    | lst hs ha =>
      cases r
      obtain ⟨its, rv, ⟨o, n, ho, hc, _, hd⟩, _⟩ := I.list (SqL.of hs)
      obtain ⟨as, hr, hb⟩ := Dr.readsAll I ds _ its ha rv
      refine ⟨_, .list ho hc hd hr, fun b z => ?_⟩
      rcases List.mem_cons.mp z with e | e
      · subst e
        exact .inl ⟨_, hs⟩
      · exact hb b e
  | .tuple ds, _, _, h, r => by
    cases h with
    | tup hs ha =>
      cases r
      obtain ⟨its, rv, ⟨o, ho, hc, n, hd⟩, _⟩ := I.tuple (SqT.of hs)
      obtain ⟨as, hr, hb⟩ := Dr.readsAll I ds _ its ha rv
      exact ⟨_, .tuple ho hc hd hr, hb⟩
  | .dict kvs, _, _, h, r => by
    cases h with
    | dct hs =>
      cases r
      obtain ⟨_, _, vs, rel, dd⟩ := dk_of I.hok hs
      cases rel
      obtain ⟨o, es, ep, ho, hx, hda, _, hp, _⟩ := dd
      have hz := hp.length
      have he : es = #[] := Array.eq_empty_of_size_eq_zero (by simpa using hz)
      subst he
      refine ⟨_, .dict (as := []) (bs := []) ho hx.1 hda .nil .nil, fun b z => ?_⟩
      rcases List.mem_cons.mp z with e | e
      · subst e
        exact .inr hs
      · exact (nomatch e)
theorem Dr.readsAll (I : Inv X pins σ H s) : ∀ (ds : List PyData) (vs : List V) (us : List Value), DrAll H vs ds → Vals vs us → ∃ as, ReadsAll s.heap us ds as ∧ ∀ b ∈ as, (∃ xs, H b = some (.lst xs)) ∨ H b = some (.dK [])
  | [], _, _, h, r => by
    cases h
    cases r
    exact ⟨_, .nil, fun b z => (nomatch z)⟩
  | d :: ds, _, _, h, r => by
    cases h with
    | cons h1 h2 =>
      cases r with
      | cons r1 r2 =>
        obtain ⟨as, q1, b1⟩ := Dr.reads I d _ _ h1 r1
        obtain ⟨bs, q2, b2⟩ := Dr.readsAll I ds _ _ h2 r2
        refine ⟨_, .cons q1 q2, fun b z => ?_⟩
        rcases List.mem_append.mp z with e | e
        · exact b1 b e
        · exact b2 b e
end
end
section
variable {X : Cx}
theorem readsAll_nil {h : Heap} {us : List Value} {as : List Addr} (r : ReadsAll h us [] as) : as = [] := by
  cases r
  rfl
/-- repr(x) of data (its dict, if it has one, is all of it) -/
def rRepr : List V → Hp → VK → Prop := fun xs H Q => ∃ (x : V) (d : PyData), xs = [x] ∧ Dr H x d ∧ d.showable = true ∧ d.depth ≤ 40 ∧ ((∀ i, d ≠ .int i) → d.shown.length ≤ sizeLine) ∧ (d.hasDict = true → d = .dict []) ∧ Q (.str d.shown) H
theorem call_reprD (hG : X.A.guards = some []) (hu : X.A.units + 64 < cLine) : CallR X (.builtin "repr") rRepr := by
  intro pins s σ H xs us Q I r h
  obtain ⟨x, d, rfl, hd, hs, hdep, hz, hk, q⟩ := h
  cases r with
  | cons rx rr =>
    rename_i u us
    cases rr
    have byRef : ∀ a, u = .ref a → wpAny (model X.prog X.w) X.A (call (.builtin "repr") [u]) (EP X pins σ Q) X.xe s := fun a e => by
      subst e
      obtain ⟨as, hr, hb⟩ := Dr.reads I d x _ hd rx
      refine repr_of_reads' hr hs (fun z => ?_) hG (by omega) (fun _ _ e => e) (fun h1 u1 tk k => ⟨.str d.shown, H, I.kept (t' := tk) k, ⟨u1, rfl⟩, q⟩) (hz fun i ei => by subst ei; cases hr)
      have ed := hk z
      subst ed
      cases hd with
      | dct hs1 =>
        cases rx
        cases hr with
        | dict h1 h2 h3 h4 h5 =>
          intro hm
          have e4 := readsAll_nil h4
          have e5 := readsAll_nil h5
          subst e4
          subst e5
          obtain ⟨_, e6, _⟩ := dk_of I.hok hs1
          rcases List.mem_cons.mp hm with e7 | e7
          · rw [← e7] at e6
            cases e6
          · exact (nomatch e7)
    cases hd with
    | non =>
      cases rx
      exact PySem.P.repr_of_none ⟨.str _, H, I.tok _, ⟨_, rfl⟩, q⟩
    | bl b =>
      cases rx
      exact PySem.P.repr_of_bool ⟨.str _, H, I.tok _, ⟨_, rfl⟩, q⟩
    | int i =>
      obtain ⟨t, rfl⟩ := rx
      exact PySem.P.repr_of_int (of_decide_eq_true hs) ⟨.str _, H, I.tok _, ⟨_, rfl⟩, q⟩
    | str x =>
      obtain ⟨t, rfl⟩ := rx
      exact PySem.P.repr_of_str ⟨.str _, H, I.tok _, ⟨_, rfl⟩, q⟩ (hz fun i ei => by cases ei)
    | lst h1 h2 =>
      cases rx
      exact byRef _ rfl
    | tup h1 h2 =>
      cases rx
      exact byRef _ rfl
    | dct h1 =>
      cases rx
      exact byRef _ rfl
end
end LK
namespace LK
open PySem PySem.Spec PyProof.Rows L2
theorem same_upd {H : Hp} {p : Addr} {o : HO} (h : H p = none) : Same H (upd H p o) := fun b x e => by
  rw [upd_ne (ne_of_none e h)]
  exact e
theorem none_upd {H : Hp} {p q : Addr} {o : HO} (h : upd H p o q = none) : H q = none ∧ q ≠ p := by
  by_cases e : q = p
  · rw [e, upd_same] at h
    cases h
  · rw [upd_ne e] at h
    exact ⟨h, e⟩
/-- a reading, weakened behind -/
def tUp (te : TE) : TE := fun σ H Q => ∃ Q0 : VK, te σ H Q0 ∧ ∀ v H1, Q0 v H1 → Q v H1
theorem pe_up {X : Cx} {e : Expr} {te : TE} (he : PE X e te) : PE X e (tUp te) := ⟨fun pins s σ H Q I h => by
  obtain ⟨Q0, h0, hq⟩ := h
  refine wpAny_mono (he.run pins s σ H Q0 I h0) (fun u s1 hu => ?_) fun _ _ z => z
  obtain ⟨v, H1, I1, r, q⟩ := hu
  exact ⟨v, H1, I1, r, hq v H1 q⟩⟩
/-- __init__(self, f): self.f = f -/
def spInit (K : PySem.W.Frag) (f : Str) : Sp := fun vs H Q _ => ∃ (a C : Addr) (v : V), vs = [.ref a, v] ∧ OexC K C ∧ PySem.W.findIn K (.ref C) f = some none ∧ H a = some (exo a C none) ∧
  ∀ d, H d = none → d ≠ a → Q .non (upd (upd H d (exd d [(f, v)])) a (exo a C (some d)))
/-- what stands of an error class with such an __init__ -/
structure ErrCls (P : Program) (w : World) (K : PySem.W.Frag) (mg : Str → Option Value) (base : Heap) (x f : Str) (C : Addr) : Prop where
  gC : mg x = some (.ref C)
  T : OexC K C
  no : PySem.W.findIn K (.ref C) f = some none
  init : ∃ (fI : Addr) (fd : FuncData), PySem.W.findIn K (.ref C) "__init__" = some (some (.ref fI)) ∧ PySem.W.typeIn K (.ref fI) = some (.type "function") ∧ FnOk P w K mg base CX0 1 fI fd ["self", f] (spInit K f) ∧ Binds K fd ["self", f] []
/-- x(e), an error as a value -/
def tErr (C : Addr) (f : Str) (te : TE) : TE := fun σ H Q => te σ H fun v H1 => ∀ d a, H1 d = none → H1 a = none → a ≠ d → Q (.ref a) (upd (upd H1 d (.xd [(f, v)])) a (ErrO (.ref C) (some d) a))
theorem pe_mkErr {X : Cx} {x f : Str} {C : Addr} {e : Expr} {te : TE} {p pos : Pos} (M : ErrCls X.prog X.w X.K X.mg X.base x f C) (hr : Room 2 X.A) (hg : Gl X x) (he : PE X e te)
    (hdb : (x == ("__debug__" : Str)) = false := by decide) (hs : starEach [e] X.env = (false, eval e X.env) :: starEach [] X.env := by rfl) : PE X (.Call (.Name x p) [e] [] pos) (tErr C f te) := by
  obtain ⟨fI, fd, iC, tI, G, b⟩ := M.init
  have h0 := pe_of_pmk (pmk_oex (p := p) (pos := pos) M.T iC tI G hr b .nil pass0 hg M.gC (pa_cons (pe_up he) pa_nil hs) hdb hs rfl)
  refine ⟨fun pins s σ H Q I h => h0.run pins s σ H Q I ?_⟩
  refine ⟨_, h, fun v H1 hv => ?_⟩
  refine ⟨by show 1 ≤ 1000; decide, fun a na => ⟨a, C, v, rfl, M.T, M.no, upd_same, fun d nd nda => ⟨rfl, d, [(f, v)], upd_same, ?_, (none_upd nd).1, fun a' na' => ?_⟩⟩⟩
  · rw [upd_ne nda, upd_same]
  · have e1 : (upd (del (upd (upd (upd H1 a (exo a C none)) d (exd d [(f, v)])) a (exo a C (some d))) a) d (.xd [(f, v)])) = upd H1 d (.xd [(f, v)]) := by
      funext b
      by_cases hb : b = d
      · rw [hb, upd_same, upd_same]
      · rw [upd_ne hb, upd_ne hb]
        by_cases hb2 : b = a
        · rw [hb2, del_same, na]
        · rw [del_ne hb2, upd_ne hb2, upd_ne hb, upd_ne hb2]
    rw [e1] at na' ⊢
    exact hv d a' (none_upd nd).1 (none_upd na').1 (none_upd na').2
theorem cat_use {H : Hp} {Q : VK} {p q : Addr} {xs zs : List V} (h1 : H p = some (.lst xs)) (h2 : H q = some (.lst zs)) (hz : xs.length + zs.length ≤ sizeLine) (k : ∀ r, H r = none → Q (.ref r) (upd H r (.lst (xs ++ zs)))) : rCat (.ref p) (.ref q) H Q :=
  ⟨p, q, xs, zs, rfl, rfl, h1, h2, hz, k⟩
end LK
namespace LK
open PySem PySem.Spec PyProof.Rows L2
/-! ### sets of texts: a set is told by the list of its members, in the order in which they came -/
/-- L with k, if it is not there yet -/
def ins (L : List Str) (k : Str) : List Str := if k ∈ L then L else L ++ [k]
/-- the members of a list, each once, in the order in which they come -/
def firsts (xs : List Str) : List Str := xs.foldl ins []
theorem ins_mem {L : List Str} {k x : Str} : x ∈ ins L k ↔ x ∈ L ∨ x = k := by
  unfold ins
  split
  · rename_i h
    exact ⟨Or.inl, fun z => z.elim id fun e => e ▸ h⟩
  · rw [List.mem_append, List.mem_singleton]
theorem ins_nodup {L : List Str} {k : Str} (h : L.Nodup) : (ins L k).Nodup := by
  unfold ins
  split
  · exact h
  · rename_i n
    exact List.nodup_append.mpr ⟨h, by simp, fun a ha b hb e => n (by rw [List.mem_singleton.mp hb] at e; rw [← e]; exact ha)⟩
theorem ins_len (L : List Str) (k : Str) : (ins L k).length ≤ L.length + 1 := by
  unfold ins
  split
  · omega
  · rw [List.length_append, List.length_singleton]
    exact Nat.le_refl _
def keyT (e : Int × Value) : Str := match e.2 with | .str k _ => k | _ => Str.empty
def GoodT (w : World) (e : Int × Value) : Prop := ∃ k tk, e.2 = Value.str k tk ∧ e.1 = hashStr w k
/-- the set of the texts L at a; it can be walked -/
def SetRT (w : World) (h : Heap) (a : Addr) (L : List Str) : Prop :=
  ∃ o es ep t, h.get? a = some o ∧ o.ExactSet ∧ o.data = .set es ep t ∧ (∀ e ∈ es.toList, GoodT w e) ∧ (es.toList.map keyT).Perm L ∧ L.Nodup ∧ es.size < scanBound ∧ t.fits es.size = true ∧ Ris t.place.toList ∧
    (w.params.followText "set-order" = true ∨ t.led = true)
section
variable {P : Program} {w : World} {h h1 : Heap} {a : Addr} {L : List Str}
theorem SetRT.at (R : SetRT w h a L) (k : ∀ o, h.get? a = some o → h1.get? a = some o) : SetRT w h1 a L := by
  obtain ⟨o, es, ep, t, ho, r⟩ := R
  exact ⟨o, es, ep, t, k o ho, r⟩
theorem goodT_elems {l : List (Int × Value)} (g : ∀ e ∈ l, GoodT w e) : ElemsOf (PySem.strKind P w) l := fun e he => by
  obtain ⟨k, tk, e1, e2⟩ := g e he
  refine ⟨⟨k, ?_, e2⟩, ?_⟩
  · rw [e1]
    exact strKind_is P w k tk
  · rw [e1]
    rfl
theorem goodT_is {e : Int × Value} (g : GoodT w e) (k : Str) : (PySem.strKind P w).is k e.2 = true ↔ keyT e = k := by
  obtain ⟨x, tk, e1, _⟩ := g
  unfold keyT
  rw [e1]
  constructor
  · intro z
    have z2 : Value.isStrOf k (Value.str x tk) = true := z
    obtain ⟨u, hu⟩ := Value.isStrOf_shape z2
    cases hu
    rfl
  · intro z
    subst z
    exact strKind_is P w x tk
theorem goodT_mem {l : List (Int × Value)} (g : ∀ e ∈ l, GoodT w e) (k : Str) : k ∈ l.map keyT ↔ ∃ e ∈ l, (PySem.strKind P w).is k e.2 = true := by
  constructor
  · intro z
    obtain ⟨e, he, q⟩ := List.mem_map.mp z
    exact ⟨e, he, (goodT_is (P := P) (g e he) k).mpr q⟩
  · intro z
    obtain ⟨e, he, q⟩ := z
    exact List.mem_map.mpr ⟨e, he, (goodT_is (P := P) (g e he) k).mp q⟩
theorem SetRT.size (R : SetRT w h a L) : ∃ o es ep t, h.get? a = some o ∧ o.ExactSet ∧ o.data = .set es ep t ∧ es.size = L.length ∧ t.fits es.size = true ∧ L.length < scanBound := by
  obtain ⟨o, es, ep, t, ho, hx, hd, g, pm, nd, hb, hf, _⟩ := R
  have e : es.size = L.length := by rw [← pm.length_eq, List.length_map, Array.length_toList]
  exact ⟨o, es, ep, t, ho, hx, hd, e, hf, by rw [← e]; exact hb⟩
theorem SetRT.setOf (R : SetRT w h a L) : h.SetOf (PySem.strKind P w) a (fun k => decide (k ∈ L)) L.length := by
  obtain ⟨o, es, ep, t, ho, hx, hd, g, pm, nd, hb, hf, _⟩ := R
  refine ⟨o, es, ep, t, ho, hx, hd, goodT_elems g, fun k => ?_, hb, hf, ?_⟩
  · rw [decide_eq_true_eq, ← pm.mem_iff]
    exact goodT_mem g k
  · rw [← pm.length_eq, List.length_map, Array.length_toList]
theorem setRT_fresh (w : World) : SetRT w (h.push { cls := .type "set", dict := none, data := .set #[] 0 (.fresh 0 0 (!w.params.followText "set-order")) }) h.objs.size [] := by
  refine ⟨_, #[], 0, _, Heap.get?_push_size _ rfl, ⟨rfl, rfl, rfl⟩, rfl, fun e he => ?_, .nil, .nil, by decide, rfl, .nil, ?_⟩
  · simp at he
  · show _ ∨ (!w.params.followText "set-order") = true
    cases w.params.followText "set-order" with
    | true => exact Or.inl rfl
    | false => exact Or.inr rfl
end
section
variable {P : Program} {w : World} {A : Around} {E : Value → Shared → Prop} {s : Shared} {a : Addr} {L : List Str}
/-- a set is stored, and laid out anew where its table is too full -/
theorem setRT_store {g : Bool → Sem Unit} (hg : ∀ (b : Bool) (s1 : Shared) (Q1 : Unit → Shared → Prop), Q1 () s1 → wpAny (model P w) A (g b) Q1 E s1)
    {o : Obj} {es es1 : Array (Int × Value)} {ep : Nat} {t t2 : SetTable} (ho : s.heap.get? a = some o) (hex : o.ExactSet) (hd : o.data = .set es ep t)
    (g1 : ∀ e ∈ es1.toList, GoodT w e) (p1 : (es1.toList.map keyT).Perm L) (nd : L.Nodup) (hb1 : es1.size < scanBound) (hf2 : t2.fits es1.size = true) (hr : Ris t2.place.toList)
    (hl : w.params.followText "set-order" = true ∨ t2.led = true) {wd : Bool} {R : Option Bool → Shared → Prop} (hR : ∀ h1, Heap.SameBut a s.heap h1 → SetRT w h1 a L → R (some true) { s with heap := h1 }) :
    wpAny (model P w) A (do
        storeSet a es1 t2
        if (!wd && t2.tooFull) = true then do
            g (relayAll t2 es1 (SetTable.grown es1.size)).2.2
            storeSet a (relayAll t2 es1 (SetTable.grown es1.size)).1 (relayAll t2 es1 (SetTable.grown es1.size)).2.1
            pure (some true)
          else pure (some true)) R E s := by
  refine wpAny_bind (wpAny_storeSet_of ho hd ?_ (fits_of_scanBound hb1))
  have o1 := store_at (es' := es1) (t' := t2) ho hd
  have b1 := Heap.SameBut.update s.heap a (Obj.putSet es1 t2)
  split
  · have pz := relayAll_perm t2 es1 (SetTable.grown es1.size)
    have fz := relayAll_fits t2 es1 (SetTable.grown es1.size)
    have rz := relayAll_ris t2 es1 (SetTable.grown es1.size)
    have lz := relayAll_led t2 es1 (SetTable.grown es1.size)
    generalize relayAll t2 es1 (SetTable.grown es1.size) = Z at pz fz rz lz ⊢
    obtain ⟨es2, t3, gave⟩ := Z
    dsimp only at pz fz rz lz ⊢
    have sz : es2.size = es1.size := by
      rw [← Array.length_toList, pz.length_eq, Array.length_toList]
    have hb2 : es2.size < scanBound := by
      rw [sz]
      exact hb1
    refine wpAny_bind (hg _ _ _ (wpAny_bind (wpAny_storeSet_of o1 rfl ?_ (fits_of_scanBound hb2))))
    have o2 := store_at (es' := es2) (t' := t3) o1 rfl
    refine wpAny_pure (hR _ (b1.trans (Heap.SameBut.update _ a _)) ⟨_, es2, _, t3, o2, hex, rfl, fun e he => g1 e (pz.mem_iff.mp he), (pz.map keyT).trans p1, nd, hb2, fz, rz, hl.imp id fun z => ?_⟩)
    rw [lz]
    exact z
  · exact wpAny_pure (hR _ b1 ⟨_, es1, _, t2, o1, hex, rfl, g1, p1, nd, hb1, hf2, hr, hl⟩)
theorem setRT_addH {k : Str} {tk : Tok} {Q : Bool → Shared → Prop} (R : SetRT w s.heap a L) (room : L.length + 1 < scanBound)
    (hQ : ∀ b h1, Heap.SameBut a s.heap h1 → SetRT w h1 a (ins L k) → Q b { s with heap := h1 }) : wpAny (model P w) A (setAddHashed a (.str k tk) ((PySem.strKind P w).hash k)) Q E s := by
  obtain ⟨o, es, ep, t, ho, hex, hd, g, pm, nd, hb, hf, hr, hl⟩ := R
  have isk : (PySem.strKind P w).is k (.str k tk) = true := strKind_is P w k tk
  have sck : (Value.str k tk).scannable = true := rfl
  have hel : ElemsOf (PySem.strKind P w) es.toList := goodT_elems g
  have hn : es.size = L.length := by rw [← pm.length_eq, List.length_map, Array.length_toList]
  unfold setAddHashed setAddHashedIn
  refine wpAny_holding (wpAny_bind (wpAny_setState_of ho hd hf ?_))
  dsimp only
  rw [byScan_of sck hb hel]
  simp only [↓reduceIte]
  unfold setAddByScan
  refine wpAny_bind (wpAny_bind (wpAny_rule (wpAny_bind (wpAny_setScan_of isk ho hd hf hel ?_))))
  cases fi : List.findIdx? (fun e => (PySem.strKind P w).is k e.2) es.toList with
  | some j =>
    dsimp only
    obtain ⟨hj, pj, _⟩ := List.findIdx?_eq_some_iff_getElem.mp fi
    have kin : k ∈ L := pm.mem_iff.mp ((goodT_mem (P := P) g k).mpr ⟨es.toList[j], List.getElem_mem hj, pj⟩)
    refine wpAny_pure (wpAny_pure (hQ _ s.heap (Heap.SameBut.refl a s.heap) ?_))
    rw [show ins L k = L from if_pos kin]
    exact ⟨o, es, ep, t, ho, hex, hd, g, pm, nd, hb, hf, hr, hl⟩
  | none =>
    dsimp only
    have kout : k ∉ L := fun z => by
      obtain ⟨e, he, q⟩ := (goodT_mem (P := P) g k).mp (pm.mem_iff.mpr z)
      have c := List.findIdx?_eq_none_iff.mp fi e he
      rw [q] at c
      cases c
    have gw : ∀ (b : Bool) {s1 : Shared} {Q1 : Unit → Shared → Prop}, Q1 () s1 → wpAny (model P w) A (match b with | true => rule "set.scan.the-table-gave-way" | false => pure ()) Q1 E s1 :=
      fun b s1 Q1 q => by cases b <;> first | exact wpAny_pure q | exact wpAny_rule q
    have pz := layNew_perm t es ((PySem.strKind P w).hash k) (.str k tk)
    have fz := layNew_fits t es ((PySem.strKind P w).hash k) (.str k tk)
    have rz := layNew_ris t es ((PySem.strKind P w).hash k) (.str k tk) hr
    have lz := layNew_led t es ((PySem.strKind P w).hash k) (.str k tk)
    generalize layNew t es ((PySem.strKind P w).hash k) (.str k tk) = Z at pz fz rz lz ⊢
    obtain ⟨es1, t1, wd, gave⟩ := Z
    dsimp only at pz fz rz lz ⊢
    rw [Array.toList_push] at pz
    have eI : ins L k = L ++ [k] := if_neg kout
    have pk : (es1.toList.map keyT).Perm (ins L k) := by
      rw [eI]
      have q := pz.map keyT
      rw [List.map_append] at q
      exact q.trans (pm.append_right _)
    have g1 : ∀ e ∈ es1.toList, GoodT w e := fun e he => by
      rcases List.mem_append.mp (pz.mem_iff.mp he) with z | z
      · exact g e z
      · rw [List.mem_singleton.mp z]
        exact ⟨k, tk, rfl, rfl⟩
    have sz : es1.size = L.length + 1 := by
      rw [← Array.length_toList, pz.length_eq, List.length_append, Array.length_toList, hn]
      rfl
    have hb1 : es1.size < scanBound := by
      rw [sz]
      exact room
    have led : w.params.followText "set-order" = true ∨ t1.led = true := hl.imp id fun z => by
      rw [lz]
      exact z
    refine wpAny_bind (gw _ ?_)
    split
    · refine wpAny_bind ?_
      rw [hashByValue_scannable 8 sck]
      refine wpAny_pure ?_
      refine setRT_store ?_ ho hex hd g1 pk (ins_nodup nd) hb1 ?_ ?_ ?_ ?_
      · intro b s1 Q1 q; cases b <;> first | exact wpAny_pure q | exact wpAny_rule q
      · first | (split <;> first | exact fz | exact SetTable.fits_plain_off fz) | exact fz
      · first | (split <;> exact rz) | exact rz
      · first | (split <;> exact led) | exact led
      · intro h1 sb r; dsimp only; exact wpAny_pure (hQ _ h1 sb r)
    · refine wpAny_bind (wpAny_pure ?_)
      simp only [↓reduceIte]
      refine setRT_store ?_ ho hex hd g1 pk (ins_nodup nd) hb1 fz rz led ?_
      · intro b s1 Q1 q; cases b <;> first | exact wpAny_pure q | exact wpAny_rule q
      · intro h1 sb r; dsimp only; exact wpAny_pure (hQ _ h1 sb r)
theorem setRT_add {k : Str} {tk : Tok} {Q : Value → Shared → Prop} (R : SetRT w s.heap a L) (room : L.length + 1 < scanBound)
    (hQ : ∀ h1, Heap.SameBut a s.heap h1 → SetRT w h1 a (ins L k) → Q .none { s with heap := h1, toks := s.toks + 1 }) : wpAny (model P w) A (call (.builtin "set.add") [.ref a, .str k tk]) Q E s := by
  have ty := (R.setOf (P := P)).typeIs (s := s)
  refine wpAny_call_entry F.slot_set_add ty F.entry_set_add ?_ (F.args_set_add_2 _ _)
  unfold Builtin.«set.add» Builtin.Frozenset.oneOther
  simp only [List.isEmpty_nil, bind_assoc]
  unfold Builtin.Frozenset.addrOf setAdd
  refine wpAny_bind (wpAny_pure ?_)
  try dsimp only
  refine wpAny_bind (wpAny_pure ?_)
  try dsimp only
  refine wpAny_bind (wpAny_holding (wpAny_bind ((PySem.strKind P w).pyHash (strKind_is P w k tk) ?_)))
  refine setRT_addH (s := { s with toks := s.toks + 1 }) R room fun b h1 sb r => ?_
  show wpAny _ _ (ret Value.none) _ _ _
  exact wpAny_pure ⟨_, rfl, hQ h1 sb r⟩
/-- the texts in their order -/
def leS (x y : Str) : Bool := decide (x.cps.toList ≤ y.cps.toList)
def sortS (l : List Str) : List Str := l.mergeSort leS
theorem leS_trans (x y z : Str) (h1 : leS x y = true) (h2 : leS y z = true) : leS x z = true := decide_eq_true (List.le_trans (of_decide_eq_true h1) (of_decide_eq_true h2))
theorem leS_total (x y : Str) : (leS x y || leS y x) = true := by
  rw [Bool.or_eq_true]
  rcases List.le_total x.cps.toList y.cps.toList with z | z
  · exact Or.inl (decide_eq_true z)
  · exact Or.inr (decide_eq_true z)
theorem leS_anti {x y : Str} (h1 : leS x y = true) (h2 : leS y x = true) : x = y := by
  have e : x.cps.toList = y.cps.toList := List.le_antisymm (of_decide_eq_true h1) (of_decide_eq_true h2)
  obtain ⟨a⟩ := x
  obtain ⟨b⟩ := y
  exact congrArg Str.mk (Array.toList_inj.mp e)
theorem sortS_perm (l : List Str) : (sortS l).Perm l := List.mergeSort_perm l leS
theorem sortS_sorted (l : List Str) : (sortS l).Pairwise (fun x y => leS x y = true) := List.pairwise_mergeSort leS_trans leS_total l
theorem sortS_of_perm {l m : List Str} (h : l.Perm m) : sortS l = sortS m :=
  List.Perm.eq_of_pairwise (le := fun x y => leS x y = true) (fun _ _ _ _ h1 h2 => leS_anti h1 h2) (sortS_sorted l) (sortS_sorted m) ((sortS_perm l).trans (h.trans (sortS_perm m).symm))
end
end LK
namespace LK
open PySem PySem.Spec PyProof.Rows L2
/-- the set of the texts L at a -/
def SetT (w : World) (a : Addr) (L : List Str) : HO := .ext fun h => SetRT w h a L
theorem setT_ok {P : Program} {w : World} {H : Hp} {h : Heap} {a : Addr} {L : List Str} (R : SetRT w h a L) : ObjOk P w H h a (SetT w a L) := by
  have ⟨o, _, _, _, ho, _⟩ := R
  exact ⟨R, ⟨o, ho⟩, fun h1 h2 p k => p.at k⟩
section
variable {X : Cx}
theorem setT_get {pins : List (Addr × Obj)} {σ : L2.St} {H : Hp} {s : Shared} {a : Addr} {L : List Str} (I : Inv X pins σ H s) (ha : H a = some (SetT X.w a L)) : SetRT X.w s.heap a L := (I.hok a _ ha).1
/-- set() -/
def rSet0T (w : World) : List V → Hp → VK → Prop := fun xs H Q => xs = [] ∧ ∀ p, H p = none → Q (.ref p) (upd H p (SetT w p []))
theorem cr_set0T : CallR X (.type "set") (rSet0T X.w) := by
  intro pins s σ H xs us Q I r h
  obtain ⟨rfl, q⟩ := h
  cases r
  refine setR_new fun _ => ?_
  exact ⟨.ref _, _, I.laid (t' := s.toks) (fun b u e => Heap.get?_push_of_some _ e) (Nat.le_refl _) (setT_ok (setRT_fresh X.w)), rfl, q _ (I.hok.fresh (Nat.le_refl _))⟩
theorem setT_write {pins : List (Addr × Obj)} {σ : L2.St} {H : Hp} {s : Shared} {a : Addr} {L M : List Str} {h1 : Heap} {tk : Nat} (I : Inv X pins σ H s) (ha : H a = some (SetT X.w a L)) (sb : Heap.SameBut a s.heap h1) (new : SetRT X.w h1 a M) :
    Inv X pins σ (upd H a (SetT X.w a M)) { s with heap := h1, toks := tk } := by
  have ⟨o, _, _, _, ho, _⟩ := new
  exact I.write (e := a) (t' := tk) (by rw [ha]; trivial) (.inl rfl) (fun b u hb hu => (sb.2 b hb).trans hu) ⟨o, ho⟩ (setT_ok new)
/-- found.add(k) -/
def tSAddT (w : World) (to : TE) (t : TE) : TE := fun σ H Q => to σ H fun x H1 => (∃ a L, x = V.ref a ∧ H1 a = some (SetT w a L)) ∧ t σ H1 fun y H2 => ∃ (a : Addr) (k : Str) (L : List Str), x = V.ref a ∧ y = .str k ∧ H2 a = some (SetT w a L) ∧ L.length + 1 < scanBound ∧
  Q .non (upd H2 a (SetT w a (ins L k)))
theorem pe_saddT {o e : Expr} {to te : TE} {apos cpos : Pos} (ho : PE X o to) (he : PE X e te) (hbase : attributeBase o "add" X.env (eval o X.env) = eval o X.env := by rfl)
    (hfew : ((backTo cpos (starEach [e] X.env)).all (fun x => !x.1) && (backToKw cpos (keywordEach [] X.env)).all (fun x => x.1.isSome) && decide ([e].length + ([] : List Keyword).length + (if ([] : List Keyword).isEmpty then 0 else 1) < 30)) = true := by rfl)
    (hline : (apos.endLine == cpos.line) = true := by rfl) (hs : starEach [e] X.env = (false, eval e X.env) :: starEach [] X.env := by rfl) :
    PE X (.Call (.Attribute o "add" apos) [e] [] cpos) (tSAddT X.w to te) := by
  refine ⟨fun pins s σ H Q I h => ?_⟩
  refine wpAny_Call_method_late hbase hfew hline rfl (thn (ho.run pins s σ H _ I h) fun v s1 hv => ?_)
  obtain ⟨x, H1, I1, r1, ⟨a, L, rfl, ha⟩, q1⟩ := hv
  cases r1
  have hS := (setT_get I1 ha).setOf (P := X.prog)
  refine ⟨"set", "set.add", F.plainAttrs_set, F.slot_set_add, F.type_set_add, hS.typeIs, hS.noDict, ?_⟩
  have hA := (pa_cons (pe_up he) pa_nil hs).run cpos pins s1 σ H1 (fun vs H2 => ∃ y, vs = [y] ∧ ∃ (b : Addr) (k : Str) (L : List Str), V.ref a = V.ref b ∧ y = .str k ∧ H2 b = some (SetT X.w b L) ∧ L.length + 1 < scanBound ∧ Q .non (upd H2 b (SetT X.w b (ins L k)))) I1 ⟨_, q1, fun v H2 hv => ⟨v, rfl, hv⟩⟩
  rw [hs] at hA ⊢
  refine Calls.callWith_builtin rfl (Calls.evalArgs_plain (thn hA fun us s2 hu => ?_))
  obtain ⟨vs, H2, I2, r2, y, rfl, b, k, M, eb, rfl, hb, room, q2⟩ := hu
  cases eb
  cases r2 with
  | cons ry rt =>
    cases rt
    obtain ⟨tk, rfl⟩ := ry
    exact setRT_add (setT_get I2 hb) room fun h1 sb r => ⟨.non, _, setT_write I2 hb sb r, rfl, q2⟩
/-- k in found, k not in found -/
def rSInT (w : World) (neg : Bool) : V → V → Hp → VK → Prop := fun x y H Q => ∃ (k : Str) (a : Addr) (L : List Str), x = .str k ∧ y = V.ref a ∧ H a = some (SetT w a L) ∧ Q (.bl (if neg then !decide (k ∈ L) else decide (k ∈ L))) H
theorem or_sinT : OpR X (compareOp .In) (rSInT X.w false) := by
  intro pins s σ H x y v u Q I rx ry h
  obtain ⟨k, a, L, rfl, rfl, ha, q⟩ := h
  cases ry
  obtain ⟨tk, rfl⟩ := rx
  exact wpAny_inSet_of (strKind_is X.prog X.w k tk) rfl (setT_get I ha).setOf ⟨.bl (decide (k ∈ L)), H, I.tok _, rfl, q⟩
theorem or_snotinT : OpR X (compareOp .NotIn) (rSInT X.w true) := by
  intro pins s σ H x y v u Q I rx ry h
  obtain ⟨k, a, L, rfl, rfl, ha, q⟩ := h
  cases ry
  obtain ⟨tk, rfl⟩ := rx
  exact wpAny_notInSet_of (strKind_is X.prog X.w k tk) rfl (setT_get I ha).setOf ⟨.bl (!decide (k ∈ L)), H, I.tok _, rfl, q⟩
/-- len(found) -/
def rLenT (w : World) : List V → Hp → VK → Prop := fun xs H Q => ∃ (a : Addr) (L : List Str), xs = [.ref a] ∧ H a = some (SetT w a L) ∧ Q (.int L.length) H
theorem call_lenT : CallR X (.builtin "len") (rLenT X.w) := by
  intro pins s σ H xs us Q I r h
  obtain ⟨a, L, rfl, ha, q⟩ := h
  rw [Vals.ref1 r]
  obtain ⟨o, es, ep, t, ho, hx, hd, e, hf, hb⟩ := (setT_get I ha).size
  refine call_len_set ho hx hd hf ?_ ⟨.int L.length, H, I.tok _, ⟨_, by rw [e]⟩, q⟩
  rw [e]
  have : L.length < 4096 := hb
  omega
/-- sorted(found) -/
def rSortedT (w : World) : List V → Hp → VK → Prop := fun vs H Q => ∃ (a : Addr) (L : List Str), vs = [V.ref a] ∧ H a = some (SetT w a L) ∧ ∀ p, H p = none → Q (.ref p) (upd H p (.lst ((sortS L).map V.str)))
theorem strs_each {h : Heap} {vs : List Value} : (∀ v ∈ vs, ∃ k tk, v = Value.str k tk) → PySem.W.EachIs (fun v z => ∃ tk, v = Value.str z tk) vs (vs.map fun v => keyT (0, v)) := by
  induction vs with
  | nil => exact fun _ => .nil
  | cons v vs ih =>
    intro hv
    refine .cons ?_ (ih fun u hu => hv u (List.mem_cons_of_mem _ hu))
    obtain ⟨k, tk, e⟩ := hv v List.mem_cons_self
    exact ⟨tk, by rw [e]; rfl⟩
theorem vals_each {vs : List Value} {zs : List Str} (h : PySem.W.EachIs (fun v z => ∃ tk, v = Value.str z tk) vs zs) : Vals (zs.map V.str) vs := by
  induction h with
  | nil => exact .nil
  | cons r _ ih => exact .cons r ih
theorem alike_strs (L : List Str) : PySem.W.AllAlike (L.map PyData.str) := PySem.W.AllAlike.of (enc := PyData.str) fun _ _ => rfl
theorem sortable_strs (L : List Str) : PySem.W.Sortable (L.map PyData.str) := PySem.W.Sortable.others (enc := PyData.str) fun _ => ⟨fun z => (by cases z), fun _ z => (by cases z)⟩
theorem dataLe_strs : PySem.W.dataLe false PyData.str = leS := PySem.W.dataLe_str (fun z : Str => z)
theorem cr_sortedT (hc : X.calm = true) (hu : X.A.units + 64 < cLine) : CallR X (.builtin "sorted") (rSortedT X.w) := by
  intro pins s σ H xs us Q I r h
  obtain ⟨a, L, rfl, ha, q⟩ := h
  rw [Vals.ref1 r]
  obtain ⟨o, es, ep, t, ho, hx, hd, g, pm, nd, hb, hf, hr, hl⟩ := setT_get I ha
  refine Calls.call_function_entry kind_sorted plain_sorted entry_sorted (args_sorted1 _) ?_
  unfold Builtin.«sorted»
  refine wpAny_bind (m := checkCount "sorted" 1 1 _) (wpAny_pure ?_)
  refine wpAny_bind (collect_set (A := X.A.in1) (I.ok.hd hc) ⟨o, ho, hx.1, hd⟩ hf hb hr hl fun s1 vs k1 hz g1 o1 pv => ?_)
  have eL : vs.length = L.length := by
    rw [pv.length_eq, List.length_map, ← pm.length_eq, List.length_map]
  have hvs : ∀ v ∈ vs, ∃ k tk, v = Value.str k tk := fun v hv => by
    obtain ⟨e, he, ee⟩ := List.mem_map.mp (pv.mem_iff.mp hv)
    obtain ⟨k, tk, e1, _⟩ := g e he
    exact ⟨k, tk, by rw [← ee]; exact e1⟩
  have pk : (vs.map fun v => keyT (0, v)).Perm L := by
    have z := pv.map fun v => keyT (0, v)
    rw [List.map_map] at z
    exact z.trans pm
  have hb2 : L.length < 4096 := by
    have z : es.size = L.length := by rw [← pm.length_eq, List.length_map, Array.length_toList]
    rw [← z]
    exact hb
  refine wpAny_bind (wpAny_newList ?_ (by rw [eL, sizeLine_eq]; omega))
  have oL : (s1.heap.push (seqObj "list" vs.toArray 0)).get? s1.heap.objs.size = some (seqObj "list" vs.toArray 0) := Heap.get?_push_size _ rfl
  have e0 := strs_each (h := s1.heap) hvs
  refine wpAny_bind (wpAny_holding ?_)
  refine PySem.W.list_sort_data (s := { s1 with heap := s1.heap.push (seqObj "list" vs.toArray 0) }) (enc := PyData.str) (bs := vs.map fun v => keyT (0, v)) oL e0 (e0.mono fun v z hv => ?_) (alike_strs _) (sortable_strs _) (by rw [List.length_map, eL, sizeLine_eq]; omega) (fun b _ => ?_) fun out ol eo => ?_
  · obtain ⟨tk, rfl⟩ := hv
    exact ⟨[], .str z tk, fun m => by cases m⟩
  · show X.A.units + 1 + 1 + 0 < cLine
    omega
  · rw [dataLe_strs] at eo
    have eS : (vs.map fun v => keyT (0, v)).mergeSort leS = sortS L := sortS_of_perm pk
    rw [eS] at eo
    obtain ⟨c, hc⟩ := sortedHeap_at (vs := vs) (out := out.toArray) oL
    refine wpAny_pure ⟨_, rfl, ?_⟩
    have kk : ∀ b u, s.heap.get? b = some u → (sortedHeap (s1.heap.push (seqObj "list" vs.toArray 0)) s1.heap.objs.size vs out.toArray).get? b = some u := fun b u e => by
      have z := k1 b u e
      have lt := Heap.lt_size z
      rw [sortedHeap_old (Nat.ne_of_lt lt) (by rw [size_push']; exact Nat.lt_succ_of_lt lt)]
      exact Heap.get?_push_of_some _ z
    have fr : H s1.heap.objs.size = none := I.hok.fresh hz
    have J := I.laid (t' := s1.toks) (a := s1.heap.objs.size) (o := .lst ((sortS L).map V.str)) kk hz ⟨by rw [List.length_map, (sortS_perm L).length_eq, sizeLine_eq]; omega, out, c, vals_each eo, hc⟩
    refine ⟨.ref _, _, ?_, rfl, q _ fr⟩
    obtain ⟨hp, gg, dd, tt, oo⟩ := s1
    exact ⟨J.ok, o1.trans J.os, by show AllBare gg; rw [show gg = s.gens from g1]; exact J.bare, J.base, J.loc, J.cell, J.free, J.freeC, J.pin, J.hok, J.len⟩
end
end LK
namespace LK
open PySem PySem.Spec PyProof.Rows L2
abbrev newO (w : World) : Obj := { cls := .type "set", dict := none, data := .set #[] 0 (.fresh 0 0 (!w.params.followText "set-order")) }
theorem setRT_at0 {w : World} {h : Heap} {a : Addr} (ho : h.get? a = some (newO w)) : SetRT w h a [] := by
  refine ⟨_, #[], 0, _, ho, ⟨rfl, rfl, rfl⟩, rfl, fun e he => ?_, .nil, .nil, by decide, rfl, .nil, ?_⟩
  · simp at he
  · show _ ∨ (!w.params.followText "set-order") = true
    cases w.params.followText "set-order" with
    | true => exact Or.inl rfl
    | false => exact Or.inr rfl
theorem firsts_take {zs : List Str} {i : Nat} {z : Str} (h : zs[i]? = some z) : firsts (zs.take (i + 1)) = ins (firsts (zs.take i)) z := by
  unfold firsts
  rw [List.take_add_one, h, List.foldl_append]
  rfl
theorem foldl_ins_len (zs : List Str) : ∀ L : List Str, (zs.foldl ins L).length ≤ L.length + zs.length := by
  induction zs with
  | nil => exact fun L => Nat.le_refl _
  | cons z zs ih =>
    intro L
    have h1 := ih (ins L z)
    have h2 := ins_len L z
    show (zs.foldl ins (ins L z)).length ≤ L.length + (zs.length + 1)
    omega
theorem firsts_len (zs : List Str) : (firsts zs).length ≤ zs.length := by
  have h := foldl_ins_len zs []
  rw [List.length_nil, Nat.zero_add] at h
  exact h
section
variable {P : Program} {w : World} {A : Around} {E : Value → Shared → Prop} {s : Shared}
theorem set_update_texts {I : Addr} {fp wr : List Addr} {G : Array GenState → Array GenState → Prop} {n : Nat} {Pv : Nat → Value → Prop} {St : Nat → Shared → Prop} {R : Result → Shared → Prop}
    (W : WalksS P w A.in1 I fp wr G n Pv St) (S : Addr) (hSf : S ∉ fp) (zs : List Str) (hn : n = zs.length) (hb : zs.length + 1 < scanBound) (hval : ∀ i v, Pv i v → ∃ k t, zs[i]? = some k ∧ v = .str k t) :
    ∀ (m i : Nat) (s : Shared), n - i = m → i ≤ n → St i s → SetRT w s.heap S (firsts (zs.take i)) → (∀ s2, Moved (S :: wr) G s s2 → SetRT w s2.heap S (firsts zs) → R (.ok (.ret .none)) s2) →
      codeAny (model P w) A (.builtin "set.update.loop" ⟨[.ref S, .ref I], []⟩) R s := by
  have nw : S ∉ wr := fun z => hSf (W.sub _ z)
  have up : ∀ b ∈ wr, b ∈ S :: wr := fun b z => List.mem_cons_of_mem _ z
  intro m
  induction m with
  | zero =>
    intro i s hm hi st hS hR
    have ei : i = n := by omega
    subst ei
    refine codeAny_builtin F.entry_set_update_loop ?_
    rw [Around.under_plainId F.plain_set_update_loop _]
    show wpAny _ A.in1 (pyNext (.ref I) >>= _) _ _ s
    refine wpAny_bind (W.done s _ _ st fun s2 mv => ?_)
    show wpAny _ A.in1 (ret Value.none) _ _ s2
    rw [List.take_of_length_le (by omega)] at hS
    exact wpAny_pure (hR s2 (mv.mono up) (hS.at fun u e => mv.heap S u nw e))
  | succ m ih =>
    intro i s hm hi st hS hR
    have lt : i < n := by omega
    refine codeAny_builtin F.entry_set_update_loop ?_
    rw [Around.under_plainId F.plain_set_update_loop _]
    show wpAny _ A.in1 (pyNext (.ref I) >>= _) _ _ s
    refine wpAny_bind (W.item i s _ _ lt st fun v s2 hP st2 mv => ?_)
    obtain ⟨z, tk, hz, rfl⟩ := hval i v hP
    have S2 : SetRT w s2.heap S (firsts (zs.take i)) := hS.at fun u e => mv.heap S u nw e
    show wpAny _ A.in1 (holding [Value.str z tk] (setAdd S (.str z tk)) >>= _) _ _ s2
    refine wpAny_bind (wpAny_holding ?_)
    unfold setAdd
    refine wpAny_holding (wpAny_bind ((PySem.strKind P w).pyHash (k := z) (strKind_is _ _ _ _) ?_))
    have few : (firsts (zs.take i)).length + 1 < scanBound := by
      have q := firsts_len (zs.take i)
      rw [List.length_take] at q
      omega
    refine setRT_addH (s := { s2 with toks := s2.toks + 1 }) S2 few fun _ h3 sb S3 => ?_
    rw [← firsts_take hz] at S3
    refine wpAny_pure ⟨plainId_quiet F.plain_set_update_loop _, ih (i + 1) _ (by omega) lt (W.frame _ s2 _ _ st2 (Nat.le_succ _) fun b q u e => ?_) S3 fun s4 mv4 S4 => ?_⟩
    · rw [sb.2 b (fun y : b = S => hSf (by rw [← y]; exact q))]
      exact e
    · refine hR s4 (Moved.trans W.gtrans ((mv.mono up).then_heap (Nat.le_succ _) fun b u q e => ?_) mv4) S4
      rw [sb.2 b (fun y : b = S => q (by rw [y]; exact List.mem_cons_self))]
      exact e
theorem call_set_listT {l : Addr} {items : Array Value} (zs : List Str) {Q : Value → Shared → Prop} (hh : A.handled = none) (hl : s.heap.IsList l items) (hit : ∀ (i : Nat) (v : Value), items[i]? = some v → ∃ k t, zs[i]? = some k ∧ v = .str k t) (hz : items.size = zs.length) (hb : zs.length + 1 < scanBound)
    (k : ∀ (h1 : Heap) (tk : Nat), SetRT w h1 s.heap.objs.size (firsts zs) → (∀ b u, s.heap.get? b = some u → h1.get? b = some u) → Q (.ref s.heap.objs.size) { s with heap := h1, toks := tk }) :
    wpAny (model P w) A (call (.type "set") [.ref l]) Q E s := by
  obtain ⟨c, tl, hmro⟩ := F.called_set.mro
  have hmade := F.called_set.made
  have hsub := F.called_set.sub
  refine wpAny_call (codeAny_of_tree ?_)
  show wpAny _ _ (callAny (.type "set") _) _ _ _
  refine wpAny_pure ⟨Code.quiet_builtin _ (by decide +kernel), codeAny_builtin F.entry_type_call ?_⟩
  rw [Around.under_plain (weight_type_call_type "set" [.ref l] []) rfl]
  have n1 := F.called_set.notType
  have n2 := F.called_set.canCreate
  have n3 := F.typeCall_set_1 (.ref l)
  repeat (any_goals (first | assumption | wp_step))
  refine codeAny_mono (code_set_led1 (.ref l) (E := E) (Q₁ := fun obj s1 => obj = .ref s.heap.objs.size ∧ s1 = { s with heap := s.heap.push (newO w) }) ⟨rfl, rfl⟩) fun r s1 hr => ?_
  cases r with
  | error e => exact hr
  | ok fl =>
    cases fl with
    | ret obj =>
      obtain ⟨rfl, rfl⟩ := hr
      have oS : (s.heap.push (newO w)).get? s.heap.objs.size = some (newO w) := Heap.get?_push_size _ rfl
      have tS : Shared.TypeIs { s with heap := s.heap.push (newO w) } (.ref s.heap.objs.size) "set" := ⟨_, oS, rfl⟩
      have n4 := F.called_set.init.lookup
      have n5 := F.called_set.init.bind (.ref s.heap.objs.size)
      repeat (any_goals (first | assumption | wp_step))
      refine codeAny_mono (codeAny_call_builtin (R := wants (fun r s2 => r = .none ∧ ∃ h1 tk, s2 = { s with heap := h1, toks := tk } ∧ SetRT w h1 s.heap.objs.size (firsts zs) ∧ ∀ b u, s.heap.get? b = some u → h1.get? b = some u) E)
        F.called_set.init.plain F.entry_set_init (check_set_init_1 tS ?_)) fun r2 s2 hr2 => ?_
      · obtain ⟨⟨c1, c2, c3, c4⟩, ol, e1, nl, e2⟩ := hl
        simp only at e1 e2
        subst e1
        subst e2
        have ol2 : (s.heap.push (newO w)).get? l = some { cls := .type "list", dict := c2, data := .seq items nl, slots := c4 } := Heap.get?_push_of_some _ ol
        have n6 := F.sub_list_set
        have n7 := F.sub_list_frozenset
        have n8 : (Value.type "list" == Value.type "dict") = false := by decide
        have il : (s.heap.push (newO w)).IsList l items := ⟨_, ol2, rfl, nl, rfl⟩
        unfold Builtin.«set.__init__» noKeywords Builtin.Frozenset.updateFrom
        generalize hPI : pyIter = PI
        wp_walk
        subst hPI
        refine wpAny_pyIter_list il (wpAny_bind (wpAny_runValue ?_))
        have lS : l < s.heap.objs.size := Heap.lt_size ol
        have h3 : A.in1.in1.in1.handled = none := by simp [hh]
        have sz : (s.heap.push (newO w)).objs.size = s.heap.objs.size + 1 := Heap.size_push ..
        have nI : l ≠ (s.heap.push (newO w)).objs.size := by
          rw [sz]
          exact Nat.ne_of_lt (Nat.lt_succ_of_lt lS)
        have nS : s.heap.objs.size ∉ [(s.heap.push (newO w)).objs.size, l] := by
          rw [sz]
          simp only [List.mem_cons, List.not_mem_nil, or_false, not_or]
          exact ⟨Nat.ne_of_lt (Nat.lt_succ_self _), Nat.ne_of_gt lS⟩
        refine set_update_texts ((Walks.list h3 _ l nI items).toS) s.heap.objs.size nS zs hz hb hit (items.size - 0) 0 _ (by omega) (Nat.zero_le _) ⟨⟨_, Heap.get?_push_size _ rfl, rfl, rfl⟩, (il.push _)⟩ (setRT_at0 (Heap.get?_push_of_some _ oS)) fun s3 mv S3 => ?_
        obtain ⟨h1, g3, d3, tk3, o3⟩ := s3
        have eg : g3 = s.gens := mv.gens
        have ed : d3 = s.drawn := mv.drawn
        have eo : o3 = s.os := mv.os
        subst eg
        subst ed
        subst eo
        show wpAny _ _ _ _ _ _
        refine wpAny_pure ?_
        show wpAny _ _ (ret Value.none) _ _ _
        refine wpAny_pure ⟨rfl, h1, tk3, rfl, S3, fun b u e => ?_⟩
        have lb : b < s.heap.objs.size := Heap.lt_size e
        refine mv.heap b u ?_ (Heap.get?_push_of_some _ (Heap.get?_push_of_some _ e))
        rw [sz]
        simp only [List.mem_cons, List.not_mem_nil, or_false, not_or]
        exact ⟨Nat.ne_of_lt lb, Nat.ne_of_lt (Nat.lt_succ_of_lt lb)⟩
      · cases r2 with
        | error e => exact hr2
        | ok fl2 =>
          cases fl2 with
          | ret r =>
            obtain ⟨rfl, h1, tk, rfl, S3, k3⟩ := hr2
            repeat (any_goals (first | assumption | wp_step))
            exact k _ _ S3 k3
          | _ => exact hr2.elim
    | _ => exact hr.elim
theorem call_set_tupleT {l : Addr} {items : Array Value} (zs : List Str) {Q : Value → Shared → Prop} (hh : A.handled = none) (hl : s.heap.IsTuple l items) (hit : ∀ (i : Nat) (v : Value), items[i]? = some v → ∃ k t, zs[i]? = some k ∧ v = .str k t) (hz : items.size = zs.length) (hb : zs.length + 1 < scanBound)
    (k : ∀ (h1 : Heap) (tk : Nat), SetRT w h1 s.heap.objs.size (firsts zs) → (∀ b u, s.heap.get? b = some u → h1.get? b = some u) → Q (.ref s.heap.objs.size) { s with heap := h1, toks := tk }) :
    wpAny (model P w) A (call (.type "set") [.ref l]) Q E s := by
  obtain ⟨c, tl, hmro⟩ := F.called_set.mro
  have hmade := F.called_set.made
  have hsub := F.called_set.sub
  refine wpAny_call (codeAny_of_tree ?_)
  show wpAny _ _ (callAny (.type "set") _) _ _ _
  refine wpAny_pure ⟨Code.quiet_builtin _ (by decide +kernel), codeAny_builtin F.entry_type_call ?_⟩
  rw [Around.under_plain (weight_type_call_type "set" [.ref l] []) rfl]
  have n1 := F.called_set.notType
  have n2 := F.called_set.canCreate
  have n3 := F.typeCall_set_1 (.ref l)
  repeat (any_goals (first | assumption | wp_step))
  refine codeAny_mono (code_set_led1 (.ref l) (E := E) (Q₁ := fun obj s1 => obj = .ref s.heap.objs.size ∧ s1 = { s with heap := s.heap.push (newO w) }) ⟨rfl, rfl⟩) fun r s1 hr => ?_
  cases r with
  | error e => exact hr
  | ok fl =>
    cases fl with
    | ret obj =>
      obtain ⟨rfl, rfl⟩ := hr
      have oS : (s.heap.push (newO w)).get? s.heap.objs.size = some (newO w) := Heap.get?_push_size _ rfl
      have tS : Shared.TypeIs { s with heap := s.heap.push (newO w) } (.ref s.heap.objs.size) "set" := ⟨_, oS, rfl⟩
      have n4 := F.called_set.init.lookup
      have n5 := F.called_set.init.bind (.ref s.heap.objs.size)
      repeat (any_goals (first | assumption | wp_step))
      refine codeAny_mono (codeAny_call_builtin (R := wants (fun r s2 => r = .none ∧ ∃ h1 tk, s2 = { s with heap := h1, toks := tk } ∧ SetRT w h1 s.heap.objs.size (firsts zs) ∧ ∀ b u, s.heap.get? b = some u → h1.get? b = some u) E)
        F.called_set.init.plain F.entry_set_init (check_set_init_1 tS ?_)) fun r2 s2 hr2 => ?_
      · obtain ⟨⟨c1, c2, c3, c4⟩, ol, e1, nl, e2⟩ := hl
        simp only at e1 e2
        subst e1
        subst e2
        have ol2 : (s.heap.push (newO w)).get? l = some { cls := .type "tuple", dict := c2, data := .seq items nl, slots := c4 } := Heap.get?_push_of_some _ ol
        have n6 := F.sub_tuple_set
        have n7 := F.sub_tuple_frozenset
        have n8 : (Value.type "tuple" == Value.type "dict") = false := by decide
        have il : (s.heap.push (newO w)).IsTuple l items := ⟨_, ol2, rfl, nl, rfl⟩
        unfold Builtin.«set.__init__» noKeywords Builtin.Frozenset.updateFrom
        generalize hPI : pyIter = PI
        wp_walk
        subst hPI
        refine wpAny_pyIter_tuple il (wpAny_bind (wpAny_runValue ?_))
        have lS : l < s.heap.objs.size := Heap.lt_size ol
        have h3 : A.in1.in1.in1.handled = none := by simp [hh]
        have sz : (s.heap.push (newO w)).objs.size = s.heap.objs.size + 1 := Heap.size_push ..
        have nI : l ≠ (s.heap.push (newO w)).objs.size := by
          rw [sz]
          exact Nat.ne_of_lt (Nat.lt_succ_of_lt lS)
        have nS : s.heap.objs.size ∉ [(s.heap.push (newO w)).objs.size, l] := by
          rw [sz]
          simp only [List.mem_cons, List.not_mem_nil, or_false, not_or]
          exact ⟨Nat.ne_of_lt (Nat.lt_succ_self _), Nat.ne_of_gt lS⟩
        refine set_update_texts ((Walks.tuple h3 _ l nI items).toS) s.heap.objs.size nS zs hz hb hit (items.size - 0) 0 _ (by omega) (Nat.zero_le _) ⟨⟨_, Heap.get?_push_size _ rfl, rfl, rfl⟩, (il.push _)⟩ (setRT_at0 (Heap.get?_push_of_some _ oS)) fun s3 mv S3 => ?_
        obtain ⟨h1, g3, d3, tk3, o3⟩ := s3
        have eg : g3 = s.gens := mv.gens
        have ed : d3 = s.drawn := mv.drawn
        have eo : o3 = s.os := mv.os
        subst eg
        subst ed
        subst eo
        show wpAny _ _ _ _ _ _
        refine wpAny_pure ?_
        show wpAny _ _ (ret Value.none) _ _ _
        refine wpAny_pure ⟨rfl, h1, tk3, rfl, S3, fun b u e => ?_⟩
        have lb : b < s.heap.objs.size := Heap.lt_size e
        refine mv.heap b u ?_ (Heap.get?_push_of_some _ (Heap.get?_push_of_some _ e))
        rw [sz]
        simp only [List.mem_cons, List.not_mem_nil, or_false, not_or]
        exact ⟨Nat.ne_of_lt lb, Nat.ne_of_lt (Nat.lt_succ_of_lt lb)⟩
      · cases r2 with
        | error e => exact hr2
        | ok fl2 =>
          cases fl2 with
          | ret r =>
            obtain ⟨rfl, h1, tk, rfl, S3, k3⟩ := hr2
            repeat (any_goals (first | assumption | wp_step))
            exact k _ _ S3 k3
          | _ => exact hr2.elim
    | _ => exact hr.elim
end
section
variable {X : Cx}
/-- set(xs), xs a list or a tuple of texts -/
def rSetOfT (w : World) : List V → Hp → VK → Prop := fun xs H Q => ∃ (l : Addr) (zs : List Str), xs = [.ref l] ∧ (H l = some (.lst (zs.map V.str)) ∨ H l = some (.tup (zs.map V.str))) ∧ zs.length + 1 < scanBound ∧ ∀ p, H p = none → Q (.ref p) (upd H p (SetT w p (firsts zs)))
theorem val_str {zs : List Str} {its : List Value} (r : Vals (zs.map V.str) its) (i : Nat) (v : Value) (h : its.toArray[i]? = some v) : ∃ k t, zs[i]? = some k ∧ v = .str k t := by
  rw [List.getElem?_toArray] at h
  have lt : i < zs.length := by
    have e := r.length
    rw [List.length_map] at e
    have := (List.getElem?_eq_some_iff.mp h).1
    omega
  obtain ⟨u, hu, t, ru⟩ := r.get (i := i) (x := V.str zs[i]) (by rw [List.getElem?_map, List.getElem?_eq_getElem lt]; rfl)
  rw [h] at hu
  exact ⟨zs[i], t, List.getElem?_eq_getElem lt, (Option.some.inj hu).trans ru⟩
theorem call_setOfT (hc : X.calm = true) : CallR X (.type "set") (rSetOfT X.w) := by
  intro pins s σ H xs us Q I r h
  obtain ⟨l, zs, rfl, hl, hb, q⟩ := h
  rw [Vals.ref1 r]
  have fin : ∀ (h1 : Heap) (tk : Nat), SetRT X.w h1 s.heap.objs.size (firsts zs) → (∀ b u, s.heap.get? b = some u → h1.get? b = some u) → EP X pins σ Q (.ref s.heap.objs.size) { s with heap := h1, toks := tk } := fun h1 tk S k =>
    ⟨.ref _, _, I.laid (t' := tk) k (Nat.le_refl _) (setT_ok S), rfl, q _ (I.hok.fresh (Nat.le_refl _))⟩
  rcases hl with hl | hl
  · obtain ⟨its, rv, pl, hz⟩ := I.list (SqL.of hl)
    exact call_set_listT zs (I.ok.hd hc) pl.isList (val_str rv) (by rw [List.size_toArray, ← rv.length, List.length_map]) hb fin
  · obtain ⟨its, rv, pl, hz⟩ := I.tuple (SqT.of hl)
    exact call_set_tupleT zs (I.ok.hd hc) pl (val_str rv) (by rw [List.size_toArray, ← rv.length, List.length_map]) hb fin
end
end LK
namespace LK
open PySem PySem.Spec PyProof.Rows L2
/-! ### a comprehension of two clauses: dc -/
theorem turnO_dc (kx vx : Expr) (t0 i0 t1 i1 : Expr) (f0 f1 : List Expr) (sc : Scope) (pos : Pos) (it acc : Value) (env : Env) : compTurn (.DictComp kx vx [⟨t0, i0, f0, 0⟩, ⟨t1, i1, f1, 0⟩] sc pos) 0 it acc env = (do
    standAt i0.pos
    match ← pyNext it with
    | none => pure (.done .next)
    | some v =>
      letOwnedTupleGo t0 it v
      assign t0 env v
      let mut ok := true
      for c in f0 do
        if ok then ok ← isTrue c env (eval c env)
      if ok then
        let x ← eval i1 env
        standAt i1.pos
        let x ← foldedSetIterable i1 env x
        let _ ← runOwn (.compStart (.DictComp kx vx [⟨t0, i0, f0, 0⟩, ⟨t1, i1, f1, 0⟩] sc pos) 1 (← holding [x] (pyIter x)) acc env) env
      again (.compLoop (.DictComp kx vx [⟨t0, i0, f0, 0⟩, ⟨t1, i1, f1, 0⟩] sc pos) 0 it acc env)) := by rfl
theorem turnI_dc (kx vx : Expr) (t0 i0 t1 i1 : Expr) (f0 f1 : List Expr) (sc : Scope) (pos : Pos) (it : Value) (D : Addr) (env : Env) : compTurn (.DictComp kx vx [⟨t0, i0, f0, 0⟩, ⟨t1, i1, f1, 0⟩] sc pos) 1 it (.ref D) env = (do
    standAt i1.pos
    match ← pyNext it with
    | none => pure (.done .next)
    | some v =>
      letOwnedTupleGo t1 it v
      assign t1 env v
      let mut ok := true
      for c in f1 do
        if ok then ok ← isTrue c env (eval c env)
      if ok then
        (do let kv ← eval kx env; let vv ← holding [kv] (eval vx env); standAt { kx.pos with endLine := vx.pos.endLine, endCol := vx.pos.endCol }; holding [kv, vv] (dictSet D kv vv))
      again (.compLoop (.DictComp kx vx [⟨t0, i0, f0, 0⟩, ⟨t1, i1, f1, 0⟩] sc pos) 1 it (.ref D) env)) := by rfl
section
variable {P : Program} {w : World} {A : Around} {R : Result → Shared → Prop} {s : Shared} {kx vx t0 i0 t1 i1 : Expr} {f0 f1 : List Expr} {sc : Scope} {pos : Pos} {it acc : Value} {D : Addr} {env : Env}
theorem loopO_dc (hs : ∀ x, foldedSetIterable i1 env x = pure x) (J : Nat → Shared → Prop)
    (turn : ∀ n s, J n s → wpAny (model P w) A (pyNext it) (fun r s1 => match r with
      | none => R (.ok .next) s1
      | some v => wpAny (model P w) A (letOwnedTupleGo t0 it v) (fun _ s2 => wpAny (model P w) A (assign t0 env v) (fun _ s3 =>
          wpAny (model P w) A (forIn f0 true fun c r => if r = true then do let ok ← isTrue c env (eval c env); pure (ForInStep.yield ok) else pure (ForInStep.yield r)) (fun ok s4 =>
            if ok = true then wpAny (model P w) A (eval i1 env) (fun x s5 => wpAny (model P w) A (pyIter x) (fun it1 s6 =>
              codeAny (model P w) A (.compStart (.DictComp kx vx [⟨t0, i0, f0, 0⟩, ⟨t1, i1, f1, 0⟩] sc pos) 1 it1 acc env) (fun r s7 => match r with
                | .ok _ => ∃ m, m < n ∧ J m s7
                | .error _ => False) s6) (notedBy (model P w) A env fun e s8 => R (.error e) s8) s5) (notedBy (model P w) A env fun e s8 => R (.error e) s8) s4
            else ∃ m, m < n ∧ J m s4) (notedBy (model P w) A env fun e s8 => R (.error e) s8) s3) (notedBy (model P w) A env fun e s8 => R (.error e) s8) s2) (notedBy (model P w) A env fun e s8 => R (.error e) s8) s1) (notedBy (model P w) A env fun e s8 => R (.error e) s8) s)
    (n : Nat) (h : J n s) : codeAny (model P w) A (.compLoop (.DictComp kx vx [⟨t0, i0, f0, 0⟩, ⟨t1, i1, f1, 0⟩] sc pos) 0 it acc env) R s := by
  refine codeAny_loop rfl J (fun n s hJ => ?_) n h
  show wpAny _ A ((compTurn (.DictComp kx vx [⟨t0, i0, f0, 0⟩, ⟨t1, i1, f1, 0⟩] sc pos) 0 it acc env).onRaise (fun x => do noteFrame x env; theTreesLotGoes x)) _ _ s
  refine wpAny_noted ?_
  rw [turnO_dc]
  refine wpAny_bind (wpAny_standAt (wpAny_bind (wpAny_mono (turn n s hJ) (fun r s1 g1 => ?_) fun _ _ z => z)))
  cases r with
  | none => exact wpAny_pure g1
  | some v =>
    refine wpAny_bind (wpAny_mono g1 (fun _ s2 g2 => ?_) fun _ _ z => z)
    refine wpAny_bind (wpAny_mono g2 (fun _ s3 g3 => wpAny_bind (wpAny_mono g3 (fun ok s4 g4 => ?_) fun _ _ z => z)) fun _ _ z => z)
    cases ok with
    | false => exact wpAny_pure ⟨rfl, g4⟩
    | true =>
      refine wpAny_bind (wpAny_mono g4 (fun x s5 g5 => ?_) fun _ _ z => z)
      refine wpAny_bind (wpAny_standAt (wpAny_bind (wpAny_of_eq (hs x) (wpAny_bind (wpAny_holding (wpAny_mono g5 (fun it1 s6 g6 => ?_) fun _ _ z => z))))))
      refine wpAny_bind (wpAny_runOwn ?_)
      rw [Around.mark_none]
      refine codeAny_mono g6 fun r s7 g7 => ?_
      cases r with
      | ok fl =>
        first
          | exact wpAny_pure ⟨rfl, g7⟩
          | exact wpAny_bind (wpAny_pure (wpAny_pure ⟨rfl, g7⟩))
      | error e => exact g7.elim
theorem loopI_dc (J : Nat → Shared → Prop)
    (turn : ∀ n s, J n s → wpAny (model P w) A (pyNext it) (fun r s1 => match r with
      | none => R (.ok .next) s1
      | some v => wpAny (model P w) A (letOwnedTupleGo t1 it v) (fun _ s2 => wpAny (model P w) A (assign t1 env v) (fun _ s3 =>
          wpAny (model P w) A (forIn f1 true fun c r => if r = true then do let ok ← isTrue c env (eval c env); pure (ForInStep.yield ok) else pure (ForInStep.yield r)) (fun ok s4 =>
            if ok = true then wpAny (model P w) A (eval kx env) (fun kv s5 => wpAny (model P w) A (eval vx env) (fun vv s6 => wpAny (model P w) A (dictSet D kv vv) (fun _ s7 => ∃ m, m < n ∧ J m s7) (notedBy (model P w) A env fun e s8 => R (.error e) s8) s6) (notedBy (model P w) A env fun e s8 => R (.error e) s8) s5) (notedBy (model P w) A env fun e s8 => R (.error e) s8) s4
            else ∃ m, m < n ∧ J m s4) (notedBy (model P w) A env fun e s8 => R (.error e) s8) s3) (notedBy (model P w) A env fun e s8 => R (.error e) s8) s2) (notedBy (model P w) A env fun e s8 => R (.error e) s8) s1) (notedBy (model P w) A env fun e s8 => R (.error e) s8) s)
    (n : Nat) (h : J n s) : codeAny (model P w) A (.compLoop (.DictComp kx vx [⟨t0, i0, f0, 0⟩, ⟨t1, i1, f1, 0⟩] sc pos) 1 it (.ref D) env) R s := by
  refine codeAny_loop rfl J (fun n s hJ => ?_) n h
  show wpAny _ A ((compTurn (.DictComp kx vx [⟨t0, i0, f0, 0⟩, ⟨t1, i1, f1, 0⟩] sc pos) 1 it (.ref D) env).onRaise (fun x => do noteFrame x env; theTreesLotGoes x)) _ _ s
  refine wpAny_noted ?_
  rw [turnI_dc]
  refine wpAny_bind (wpAny_standAt (wpAny_bind (wpAny_mono (turn n s hJ) (fun r s1 g1 => ?_) fun _ _ z => z)))
  cases r with
  | none => exact wpAny_pure g1
  | some v =>
    refine wpAny_bind (wpAny_mono g1 (fun _ s2 g2 => ?_) fun _ _ z => z)
    refine wpAny_bind (wpAny_mono g2 (fun _ s3 g3 => wpAny_bind (wpAny_mono g3 (fun ok s4 g4 => ?_) fun _ _ z => z)) fun _ _ z => z)
    cases ok with
    | false => exact wpAny_pure ⟨rfl, g4⟩
    | true => exact wpAny_bind (wpAny_bind (wpAny_mono g4 (fun kv s5 g5 => wpAny_bind (wpAny_holding (wpAny_mono g5 (fun vv s6 g6 => wpAny_bind (wpAny_standAt (wpAny_holding (wpAny_mono g6 (fun _ s7 g7 => wpAny_pure ⟨rfl, g7⟩) fun _ _ z => z)))) fun _ _ z => z))) fun _ _ z => z))
theorem start1_dc (h0 : codeAny (model P w) A (.compLoop (.DictComp kx vx [⟨t0, i0, f0, 0⟩, ⟨t1, i1, f1, 0⟩] sc pos) 1 it acc env) R s)
    (h : wpAny (model P w) A (pyIter it) (fun it2 s2 => codeAny (model P w) A (.compLoop (.DictComp kx vx [⟨t0, i0, f0, 0⟩, ⟨t1, i1, f1, 0⟩] sc pos) 1 it2 acc env) R s2) (notedBy (model P w) A env fun x s2 => R (.error x) s2) s) :
    codeAny (model P w) A (.compStart (.DictComp kx vx [⟨t0, i0, f0, 0⟩, ⟨t1, i1, f1, 0⟩] sc pos) 1 it acc env) R s := by
  refine codeAny_of_tree ?_
  show wpAny _ _ ((compStart (.DictComp kx vx [⟨t0, i0, f0, 0⟩, ⟨t1, i1, f1, 0⟩] sc pos) 1 it acc env).onRaise (fun x => do noteFrame x env; standAt theWindowsPlace)) _ _ s
  refine wpAny_notedAt ?_
  unfold compStart
  show wpAny _ _ (ask >>= _) _ _ s
  refine wpAny_bind (wpAny_askSetting (wpAny_ite ?_))
  split
  · first
      | exact wpAny_bind (wpAny_pure (wpAny_pure ⟨rfl, h0⟩))
      | exact wpAny_pure ⟨rfl, h0⟩
  · first
      | exact wpAny_bind (wpAny_rule (wpAny_bind (wpAny_standAt (wpAny_bind (wpAny_mono h (fun it2 s2 z => wpAny_pure ⟨rfl, z⟩) fun _ _ x => x)))))
      | (refine wpAny_bind (wpAny_rule ?_); show wpAny _ _ (standAt i1.pos >>= _) _ _ s; exact wpAny_bind (wpAny_standAt (wpAny_bind (wpAny_mono h (fun it2 s2 z => wpAny_pure ⟨rfl, z⟩) fun _ _ x => x))))
end
section
variable {X : Cx}
def tdc2  (wi : TI) (g : TG) (tt : TT) (wi1 : TI) (g1 : TG) (tt1 : TT) (tk tv : TE) (vs vs1 : List Nat) : TE := fun σ H Q => wi σ H fun J H1 => ∀ D, H1 D = none → ∃ W : Nat → Nat → Hp → Prop, (∃ m, W 0 m (upd H1 D (.dK []))) ∧ ∀ i m H, W i m H →
  (J.stop i H ∧ Q (.ref D) H) ∨ (J.go i H ∧ ∃ Nx : Hp → Prop, (∀ H2, Nx H2 → ∃ k, k < m ∧ W (i + 1) k H2) ∧ ∀ x H2, J.yld i H x H2 → g x (wipe σ vs) H2 fun σ2 H3 => wipe σ2 vs = wipe σ vs ∧ tt σ2 H3 fun b H4 =>
    if b = true then wi1 σ2 H4 fun J1 H5 => ∃ W1 : Nat → Nat → Hp → Prop, (∃ m, W1 0 m H5) ∧ ∀ j k H, W1 j k H →
      (J1.stop j H ∧ Nx H) ∨ (J1.go j H ∧ ∃ Nx1 : Hp → Prop, (∀ H6, Nx1 H6 → ∃ q, q < k ∧ W1 (j + 1) q H6) ∧ ∀ x H6, J1.yld j H x H6 → g1 x (wipe σ2 vs1) H6 fun σ3 H7 => wipe σ3 vs1 = wipe σ2 vs1 ∧ tt1 σ3 H7 fun b H8 =>
        if b = true then tk σ3 H8 fun y H9 => tv σ3 H9 fun z H10 => ∃ kvs k, y = kV k ∧ H10 D = some (.dK kvs) ∧ kvs.length < sizeLine ∧ Nx1 (upd H10 D (.dK (putK kvs k z))) else Nx1 H8)
    else Nx H4)
theorem core_dc {pins : List (Addr × Obj)} {s : Shared} {σ : L2.St} {H : Hp} {Q : VK} {kx vx tg iter tg1 iter1 : Expr} {ifs ifs1 : List Expr} {scope : Scope} {own : List (Str × Nat)} {vs1 : List Nat} {pos pos2 : Pos} {wi wi1 : TI} {g g1 : TG} {tt tt1 : TT} {tk tv : TE} {use : Option (Value → Sem Unit)} {Qf : Value → Shared → Prop}
    (hc : X.calm = true) (hN : X.N.Nodup) (I : Inv X pins σ H s) (hi : PI X tg iter wi) (ok : BlkOk X.N X.env.scope scope own) (hv : ∀ i ∈ vs1, i ∈ own.map (·.2))
    (hg : ∀ (s : Shared) (H : Hp) (C : Addr) (cl : List (Str × Addr)) (fp : List Addr), PG (X.blk s H scope (compEnvC scope cl C X.env) fp) tg g)
    (ht : ∀ (s : Shared) (H : Hp) (C : Addr) (cl : List (Str × Addr)) (fp : List Addr), PTs (X.blk s H scope (compEnvC scope cl C X.env) fp) ifs tt)
    (hk : ∀ (s : Shared) (H : Hp) (C : Addr) (cl : List (Str × Addr)) (fp : List Addr), PE (X.blk s H scope (compEnvC scope cl C X.env) fp) kx tk) (he : ∀ (s : Shared) (H : Hp) (C : Addr) (cl : List (Str × Addr)) (fp : List Addr), PE (X.blk s H scope (compEnvC scope cl C X.env) fp) vx tv) (hs : ∀ x, foldedSetIterable iter X.env x = pure x)
    (hi1 : ∀ (s : Shared) (H : Hp) (C : Addr) (cl : List (Str × Addr)) (fp : List Addr), PI (X.blk s H scope (compEnvC scope cl C X.env) fp) tg1 iter1 wi1)
    (hg1 : ∀ (s : Shared) (H : Hp) (C : Addr) (cl : List (Str × Addr)) (fp : List Addr), PG (X.blk s H scope (compEnvC scope cl C X.env) fp) tg1 g1)
    (ht1 : ∀ (s : Shared) (H : Hp) (C : Addr) (cl : List (Str × Addr)) (fp : List Addr), PTs (X.blk s H scope (compEnvC scope cl C X.env) fp) ifs1 tt1)
    (hs1 : ∀ env x, foldedSetIterable iter1 env x = pure x) (h : tdc2  wi g tt wi1 g1 tt1 tk tv (own.map (·.2)) vs1 σ H Q)
    (back : ∀ D C s2 m H2, Inv X pins σ H2 s2 → Q (.ref D) H2 → s2.heap.Ns C m → FpOk X pins H2 C → compPost (model X.prog X.w) X.A X.xe use Qf (.ref D) C (.ok .next) s2) :
    wpAny (model X.prog X.w) X.A (comprehension (.DictComp kx vx [⟨tg, iter, ifs, 0⟩, ⟨tg1, iter1, ifs1, 0⟩] scope pos) scope X.env pos2 newDict false (eval iter X.env) use) Qf X.xe s := by
  have clo : ∀ y ∈ scope.names, y.2 = .free → ∃ c, X.env.cells.lookup y.1 = some c := fun y hy e => by
    rcases ok.free y hy e with z | z
    · exact I.ok.has _ (Or.inl z)
    · exact I.ok.has _ (Or.inr z)
  refine wpAny_comprehension_free (use := use) rfl hs (closure_ok clo) ok.kind (fun y hy e => by rw [ok.uniq y hy, e]) (thn (hi.run pins s σ H _ I h) fun xv s1 hx => thn hx fun itv s2 h2 => ?_)
  obtain ⟨it, fp, tn, J, H2, e, I2, T, st2, f2, q⟩ := h2
  subst e
  refine wpAny_newObj_type (newEnv_comp ?_)
  generalize hD : s2.heap.objs.size = D
  have nD : H2 D = none := I2.hok.fresh (Nat.le_of_eq hD)
  obtain ⟨W, ⟨m0, w0⟩, turn⟩ := q D nD
  generalize hs3 : ({ s2 with heap := s2.heap.push ({ cls := .type "dict", data := .dict #[] } : Obj) } : Shared) = s3
  have I3 : Inv X pins σ (upd H2 D (.dK [])) s3 := by
    rw [← hs3]
    refine I2.laid (t' := s2.toks) (fun b u z => Heap.get?_push_of_some _ z) (Nat.le_of_eq hD) ?_
    rw [← hD]
    exact dk_empty s2.heap I2.big
  have h3 : s3.heap = s2.heap.push ({ cls := .type "dict", data := .dict #[] } : Obj) := by rw [← hs3]
  have lt2 : ∀ b ∈ fp, b < s2.heap.objs.size := fun b hb => by
    obtain ⟨u, z, _⟩ := T.obj _ _ st2 b hb
    exact Heap.lt_size z
  have f3 : ∀ b ∈ fp, FpOk X pins (upd H2 D (.dK [])) b ∧ b < s3.heap.objs.size := fun b hb => by
    have l := lt2 b hb
    have nbD : b ≠ D := by
      rw [← hD]
      exact Nat.ne_of_lt l
    refine ⟨⟨?_, (f2 b hb).2⟩, ?_⟩
    · rw [upd_ne nbD]
      exact (f2 b hb).1
    · rw [h3, Heap.size_push]
      exact Nat.lt_succ_of_lt l
  have st3 : tn 0 s3.heap := T.keep _ _ _ st2 fun b _ u z => by
    rw [h3]
    exact Heap.get?_push_of_some _ z
  have I4 := block_start I3 ok hN f3
  generalize hcl : cellsFrom (s3.heap.objs.size + 1) scope.names (cloFrom X.env.cells scope.names []) = cc at I4
  have pg := hg s3 (upd H2 D (.dK [])) s3.heap.objs.size cc fp
  have pt := ht s3 (upd H2 D (.dK [])) s3.heap.objs.size cc fp
  have pk := hk s3 (upd H2 D (.dK [])) s3.heap.objs.size cc fp
  have pe := he s3 (upd H2 D (.dK [])) s3.heap.objs.size cc fp
  have pi1 := hi1 s3 (upd H2 D (.dK [])) s3.heap.objs.size cc fp
  have pg1 := hg1 s3 (upd H2 D (.dK [])) s3.heap.objs.size cc fp
  have pt1 := ht1 s3 (upd H2 D (.dK [])) s3.heap.objs.size cc fp
  show codeAny _ _ (.compStart (.DictComp kx vx [⟨tg, iter, ifs, 0⟩, ⟨tg1, iter1, ifs1, 0⟩] scope pos) 0 (.ref it) (.ref D) (compEnvC scope cc s3.heap.objs.size X.env)) (compPost (model X.prog X.w) X.A X.xe use Qf (.ref D) s3.heap.objs.size)
    { s3 with heap := pushCells (s3.heap.push { cls := .type "dict", data := .dict #[] }) scope.names }
  have nfp : ∀ b ∈ fp, (upd H2 D (.dK [])) b = none := fun b hb => (f3 b hb).1.1
  generalize hce : compEnvC scope cc s3.heap.objs.size X.env = ce at I4 pg pt pk pe pi1 pg1 pt1 ⊢
  have cL : ce.locals = s3.heap.objs.size := by
    subst hce
    rfl
  generalize hH3 : upd H2 D (.dK []) = H3 at I3 I4 pg pt pk pe pi1 pg1 pt1 w0 nfp f3
  generalize hs4 : ({ s3 with heap := pushCells (s3.heap.push { cls := .type "dict", data := .dict #[] }) scope.names } : Shared) = s4 at I4 ⊢
  have st4 : tn 0 s4.heap := T.keep _ _ _ st3 fun b _ u z => by
    rw [← hs4]
    exact pushCells_keeps _ _ _ _ (Heap.get?_push_of_some _ z)
  have free : ∀ {σ5 : L2.St} {H5 : Hp} {s5 : Shared}, Inv (X.blk s3 H3 scope ce fp) [] σ5 H5 s5 → (∀ b ∈ fp, H5 b = none) → ∀ b ∈ fp, FpOk (X.blk s3 H3 scope ce fp) [] H5 b := fun {σ5 H5 s5} I5 hn b hb =>
    ⟨hn b hb, (I5.ok.exf b hb).1, I5.ok.exfs b hb, Or.inl hb, fun x c z => (I5.ok.exf b hb).2 x c z, fun p hp => absurd (show p ∈ ([] : List (Addr × Obj)) ++ [] from hp) (by simp)⟩
  have loop : codeAny (model X.prog X.w) X.A (.compLoop (.DictComp kx vx [⟨tg, iter, ifs, 0⟩, ⟨tg1, iter1, ifs1, 0⟩] scope pos) 0 (.ref it) (.ref D) ce) (compPost (model X.prog X.w) X.A X.xe use Qf (.ref D) s3.heap.objs.size) s4 := by
    refine loopO_dc (hs1 ce) (fun n s5 => ∃ i H5, Inv (X.blk s3 H3 scope ce fp) [] (wipe σ (own.map (·.2))) H5 s5 ∧ tn i s5.heap ∧ (∀ b ∈ fp, H5 b = none) ∧ W i n H5) (fun n s5 z => ?_) m0 ⟨0, H3, I4, st4, nfp, w0⟩
    obtain ⟨i, H5, I5, st5, n5, w5⟩ := z
    rcases turn i n H5 w5 with ⟨stop, qq⟩ | ⟨go, Nx, hNx, step⟩
    · refine thnF (T.done (X.blk s3 H3 scope ce fp) rfl rfl rfl hc i [] s5 _ H5 (fun _ _ => False) I5 (free I5 n5) st5 stop) fun r s6 z => ?_
      obtain ⟨rfl, I6⟩ := z
      have I7 : Inv X pins σ H5 s6 := I3.call' (ch := fp) I6.os I6.base I6.hok I6.bare fun b hb => ⟨(f3 b hb).1.2.2.2.1, (f3 b hb).1.2.1, (f3 b hb).1.2.2.2.2.1, (f3 b hb).1.2.2.2.2.2⟩
      have nC : H5 s3.heap.objs.size = none := by
        rw [← cL]
        exact I6.free
      obtain ⟨m, hn, _⟩ := I6.loc
      have hn2 : s6.heap.Ns s3.heap.objs.size m := by
        rw [← cL]
        exact hn
      exact back D s3.heap.objs.size s6 m H5 I7 qq hn2 (I3.fpOk (Nat.le_refl _) nC)
    · refine thnF (T.item (X.blk s3 H3 scope ce fp) rfl rfl rfl hc i [] s5 _ H5 (fun _ _ => False) I5 (free I5 n5) st5 go) fun r s6 z => ?_
      obtain ⟨u, rfl, h6⟩ := z
      refine thnF h6 fun _ s7 z7 => ?_
      obtain ⟨x, H7, I7, r7, y7, st7, n7⟩ := z7
      have P7 := I7.pinned (free I7 n7) (T.obj _ _ st7)
      refine thnF (pg.run _ s7 _ H7 x u _ P7 r7 (step x H7 y7)) fun _ s8 z8 => ?_
      obtain ⟨σ8, H8, I8, hw8, q8⟩ := z8
      refine thnF (pt.run _ s8 σ8 H8 _ I8 q8) fun b s9 z9 => ?_
      obtain ⟨H9, I9, q9⟩ := z9
      have fin : ∀ {σ9 : L2.St} {s10 : Shared} {H10 : Hp}, Inv (X.blk s3 H3 scope ce fp) ([] ++ pinsAt fp s7.heap) σ9 H10 s10 → (wipe σ (own.map (·.2))).length = σ9.length → (∀ (j : Nat) v, (wipe σ (own.map (·.2)))[j]? = some (some v) → σ9[j]? = some (some v)) → Nx H10 →
          ∃ m, m < n ∧ ∃ i H10, Inv (X.blk s3 H3 scope ce fp) [] (wipe σ (own.map (·.2))) H10 s10 ∧ tn i s10.heap ∧ (∀ b ∈ fp, H10 b = none) ∧ W i m H10 := fun {σ9 s10 H10} I10 hl hk nx => by
        obtain ⟨m1, hm, w1⟩ := hNx H10 nx
        have pin : ∀ b ∈ fp, ∀ u, s7.heap.get? b = some u → s10.heap.get? b = some u ∧ H10 b = none := fun b hb u z =>
          let y := I10.pin (b, u) (List.mem_append_right _ (List.mem_append_right _ (mem_pinsAt hb z)))
          ⟨y.1, y.2.1⟩
        refine ⟨m1, hm, i + 1, H10, (I10.unpinned (pins := [])).weak hl hk, T.keep _ _ _ st7 fun b hb u z => (pin b hb u z).1, fun b hb => ?_, w1⟩
        obtain ⟨u, z, _⟩ := T.obj _ _ st7 b hb
        exact (pin b hb u z).2
      have l8 : (wipe σ (own.map (·.2))).length = σ8.length := by rw [← hw8, wipe_length]
      have k8 : ∀ (j : Nat) v, (wipe σ (own.map (·.2)))[j]? = some (some v) → σ8[j]? = some (some v) := fun j v z => by
        rw [← hw8] at z
        exact (wipe_some z).1
      have k9 : ∀ (j : Nat) v, (wipe σ (own.map (·.2)))[j]? = some (some v) → (wipe σ8 vs1)[j]? = some (some v) := fun j v z => by
        rw [← hw8] at z
        obtain ⟨z1, z2⟩ := wipe_some z
        rw [wipe_out fun y => z2 (hv j y)]
        exact z1
      cases b with
      | false =>
        simp only [Bool.false_eq_true, if_false] at q9 ⊢
        exact fin I9 l8 k8 q9
      | true =>
        simp only [if_true] at q9 ⊢
        refine thnF (pi1.run _ s9 σ8 H9 _ I9 q9) fun xv s10 hx => thnF hx fun itv s11 h11 => ?_
        obtain ⟨it1, fp1, tn1, J1, H11, e1, I11, T1, st11, f11, W1, ⟨m1, w1⟩, turn1⟩ := h11
        subst e1
        have free1 : ∀ {H12 : Hp}, (∀ b ∈ fp1, H12 b = none) → ∀ b ∈ fp1, FpOk (X.blk s3 H3 scope ce fp) ([] ++ pinsAt fp s7.heap) H12 b := fun hn b hb => ⟨hn b hb, (f11 b hb).2⟩
        have loop1 : codeAny (model X.prog X.w) X.A (.compLoop (.DictComp kx vx [⟨tg, iter, ifs, 0⟩, ⟨tg1, iter1, ifs1, 0⟩] scope pos) 1 (.ref it1) (.ref D) ce) (fun r s12 => match r with
              | .ok _ => ∃ m, m < n ∧ ∃ i H12, Inv (X.blk s3 H3 scope ce fp) [] (wipe σ (own.map (·.2))) H12 s12 ∧ tn i s12.heap ∧ (∀ b ∈ fp, H12 b = none) ∧ W i m H12
              | .error _ => False) s11 := by
          refine loopI_dc (fun k s12 => ∃ j H12, Inv (X.blk s3 H3 scope ce fp) ([] ++ pinsAt fp s7.heap) (wipe σ8 vs1) H12 s12 ∧ tn1 j s12.heap ∧ (∀ b ∈ fp1, H12 b = none) ∧ W1 j k H12) (fun k s12 z12 => ?_) m1 ⟨0, H11, I11.weak (wipe_length _ _) (fun j v z => (wipe_some z).1), st11, fun b hb => (f11 b hb).1, w1⟩
          obtain ⟨j, H12, I12, st12, n12, w12⟩ := z12
          rcases turn1 j k H12 w12 with ⟨stop1, nx1⟩ | ⟨go1, Nx1, hNx1, step1⟩
          · refine thnF (T1.done (X.blk s3 H3 scope ce fp) rfl rfl rfl hc j _ s12 (wipe σ8 vs1) H12 (fun _ _ => False) I12 (free1 n12) st12 stop1) fun r s13 z13 => ?_
            obtain ⟨rfl, I13⟩ := z13
            exact fin I13 (l8.trans (wipe_length σ8 vs1).symm) k9 nx1
          · refine thnF (T1.item (X.blk s3 H3 scope ce fp) rfl rfl rfl hc j _ s12 (wipe σ8 vs1) H12 (fun _ _ => False) I12 (free1 n12) st12 go1) fun r s13 z13 => ?_
            obtain ⟨u1, rfl, h13⟩ := z13
            refine thnF h13 fun _ s14 z14 => ?_
            obtain ⟨x1, H14, I14, r14, y14, st14, n14⟩ := z14
            have P14 := I14.pinned (free1 n14) (T1.obj _ _ st14)
            refine thnF (pg1.run _ s14 (wipe σ8 vs1) H14 x1 u1 _ P14 r14 (step1 x1 H14 y14)) fun _ s15 z15 => ?_
            obtain ⟨σ15, H15, I15, hw15, q15⟩ := z15
            refine thnF (pt1.run _ s15 σ15 H15 _ I15 q15) fun b1 s16 z16 => ?_
            obtain ⟨H16, I16, q16⟩ := z16
            have fin1 : ∀ {s17 : Shared} {H17 : Hp}, Inv (X.blk s3 H3 scope ce fp) (([] ++ pinsAt fp s7.heap) ++ pinsAt fp1 s14.heap) σ15 H17 s17 → Nx1 H17 → ∃ m, m < k ∧ ∃ j H17, Inv (X.blk s3 H3 scope ce fp) ([] ++ pinsAt fp s7.heap) (wipe σ8 vs1) H17 s17 ∧ tn1 j s17.heap ∧ (∀ b ∈ fp1, H17 b = none) ∧ W1 j m H17 := fun {s17 H17} I17 nx => by
              obtain ⟨m2, hm, w2⟩ := hNx1 H17 nx
              have pin : ∀ b ∈ fp1, ∀ u, s14.heap.get? b = some u → s17.heap.get? b = some u ∧ H17 b = none := fun b hb u z =>
                let y := I17.pin (b, u) (List.mem_append_right _ (List.mem_append_right _ (mem_pinsAt hb z)))
                ⟨y.1, y.2.1⟩
              refine ⟨m2, hm, j + 1, H17, I17.unpinned.weak (by rw [← hw15, wipe_length]) (fun j v z => by rw [← hw15] at z; exact (wipe_some z).1), T1.keep _ _ _ st14 fun b hb u z => (pin b hb u z).1, fun b hb => ?_, w2⟩
              obtain ⟨u, z, _⟩ := T1.obj _ _ st14 b hb
              exact (pin b hb u z).2
            cases b1 with
            | false =>
              simp only [Bool.false_eq_true, if_false] at q16 ⊢
              exact fin1 I16 q16
            | true =>
              simp only [if_true] at q16 ⊢
              refine thnF (pk.run _ s16 σ15 H16 _ I16 q16) fun z1 s17 y17 => ?_
              obtain ⟨kv, H17, I17, r17, q17⟩ := y17
              refine thnF (pe.run _ s17 σ15 H17 _ I17 q17) fun z2 s18 y18 => ?_
              obtain ⟨vv, H18, I18, r18, kvs, k1, rfl, hD18, hz18, nx⟩ := y18
              exact d_dictSet (X := X.blk s3 H3 scope ce fp) I18 hD18 hz18 r17 r18 fun s19 I19 => fin1 I19 nx
        exact start1_dc loop1 (T1.self X.A 0 _ _ _ st11 loop1)
  exact codeAny_compStart_dict loop (T.self X.A 0 _ _ _ st4 loop)
theorem pe_dc2 {kx vx tg iter tg1 iter1 : Expr} {ifs ifs1 : List Expr} {scope : Scope} {own : List (Str × Nat)} {vs1 : List Nat} {pos : Pos} {wi wi1 : TI} {g g1 : TG} {tt tt1 : TT} {tk tv : TE} (hc : X.calm = true) (hN : X.N.Nodup) (hi : PI X tg iter wi) (ok : BlkOk X.N X.env.scope scope own) (hv : ∀ i ∈ vs1, i ∈ own.map (·.2))
    (hg : ∀ (s : Shared) (H : Hp) (C : Addr) (cl : List (Str × Addr)) (fp : List Addr), PG (X.blk s H scope (compEnvC scope cl C X.env) fp) tg g)
    (ht : ∀ (s : Shared) (H : Hp) (C : Addr) (cl : List (Str × Addr)) (fp : List Addr), PTs (X.blk s H scope (compEnvC scope cl C X.env) fp) ifs tt)
    (hi1 : ∀ (s : Shared) (H : Hp) (C : Addr) (cl : List (Str × Addr)) (fp : List Addr), PI (X.blk s H scope (compEnvC scope cl C X.env) fp) tg1 iter1 wi1)
    (hg1 : ∀ (s : Shared) (H : Hp) (C : Addr) (cl : List (Str × Addr)) (fp : List Addr), PG (X.blk s H scope (compEnvC scope cl C X.env) fp) tg1 g1)
    (ht1 : ∀ (s : Shared) (H : Hp) (C : Addr) (cl : List (Str × Addr)) (fp : List Addr), PTs (X.blk s H scope (compEnvC scope cl C X.env) fp) ifs1 tt1)
    (hk : ∀ (s : Shared) (H : Hp) (C : Addr) (cl : List (Str × Addr)) (fp : List Addr), PE (X.blk s H scope (compEnvC scope cl C X.env) fp) kx tk) (he : ∀ (s : Shared) (H : Hp) (C : Addr) (cl : List (Str × Addr)) (fp : List Addr), PE (X.blk s H scope (compEnvC scope cl C X.env) fp) vx tv) (hs : ∀ x, foldedSetIterable iter X.env x = pure x := by intro _; rfl) (hs1 : ∀ env x, foldedSetIterable iter1 env x = pure x := by intro _ _; rfl) :
    PE X (.DictComp kx vx [⟨tg, iter, ifs, 0⟩, ⟨tg1, iter1, ifs1, 0⟩] scope pos) (tdc2  wi g tt wi1 g1 tt1 tk tv (own.map (·.2)) vs1) := by
  refine ⟨fun pins s σ H Q I h => ?_⟩
  show wpAny _ _ (comprehension (.DictComp kx vx [⟨tg, iter, ifs, 0⟩, ⟨tg1, iter1, ifs1, 0⟩] scope pos) scope X.env _ newDict _ _) _ _ _
  refine core_dc hc hN I hi ok hv hg ht hk he hs hi1 hg1 ht1 hs1 h fun D C s2 m H2 I2 q hn f => ⟨m, hn, fun h3 sb => ?_⟩
  obtain ⟨a0, a1, a2, a3, a4, a5⟩ := f
  exact ⟨.ref D, H2, I2.turned (t' := s2.toks) (fun b u hb z => (sb.2 b hb).trans z) a0 a1 a3 a4 a5, rfl, q⟩
end
/-! ### a comprehension of two clauses: st -/
theorem turnO_st (el : Expr) (t0 i0 t1 i1 : Expr) (f0 f1 : List Expr) (sc : Scope) (pos : Pos) (it acc : Value) (env : Env) : compTurn (.SetComp el [⟨t0, i0, f0, 0⟩, ⟨t1, i1, f1, 0⟩] sc pos) 0 it acc env = (do
    standAt i0.pos
    match ← pyNext it with
    | none => pure (.done .next)
    | some v =>
      letOwnedTupleGo t0 it v
      assign t0 env v
      let mut ok := true
      for c in f0 do
        if ok then ok ← isTrue c env (eval c env)
      if ok then
        let x ← eval i1 env
        standAt i1.pos
        let x ← foldedSetIterable i1 env x
        let _ ← runOwn (.compStart (.SetComp el [⟨t0, i0, f0, 0⟩, ⟨t1, i1, f1, 0⟩] sc pos) 1 (← holding [x] (pyIter x)) acc env) env
      again (.compLoop (.SetComp el [⟨t0, i0, f0, 0⟩, ⟨t1, i1, f1, 0⟩] sc pos) 0 it acc env)) := by rfl
theorem turnI_st (el : Expr) (t0 i0 t1 i1 : Expr) (f0 f1 : List Expr) (sc : Scope) (pos : Pos) (it : Value) (D : Addr) (env : Env) : compTurn (.SetComp el [⟨t0, i0, f0, 0⟩, ⟨t1, i1, f1, 0⟩] sc pos) 1 it (.ref D) env = (do
    standAt i1.pos
    match ← pyNext it with
    | none => pure (.done .next)
    | some v =>
      letOwnedTupleGo t1 it v
      assign t1 env v
      let mut ok := true
      for c in f1 do
        if ok then ok ← isTrue c env (eval c env)
      if ok then
        (do let v ← eval el env; standAt el.pos; let _ ← call (.builtin "set.add") [.ref D, v])
      again (.compLoop (.SetComp el [⟨t0, i0, f0, 0⟩, ⟨t1, i1, f1, 0⟩] sc pos) 1 it (.ref D) env)) := by rfl
section
variable {P : Program} {w : World} {A : Around} {R : Result → Shared → Prop} {s : Shared} {el t0 i0 t1 i1 : Expr} {f0 f1 : List Expr} {sc : Scope} {pos : Pos} {it acc : Value} {D : Addr} {env : Env}
theorem loopO_st (hs : ∀ x, foldedSetIterable i1 env x = pure x) (J : Nat → Shared → Prop)
    (turn : ∀ n s, J n s → wpAny (model P w) A (pyNext it) (fun r s1 => match r with
      | none => R (.ok .next) s1
      | some v => wpAny (model P w) A (letOwnedTupleGo t0 it v) (fun _ s2 => wpAny (model P w) A (assign t0 env v) (fun _ s3 =>
          wpAny (model P w) A (forIn f0 true fun c r => if r = true then do let ok ← isTrue c env (eval c env); pure (ForInStep.yield ok) else pure (ForInStep.yield r)) (fun ok s4 =>
            if ok = true then wpAny (model P w) A (eval i1 env) (fun x s5 => wpAny (model P w) A (pyIter x) (fun it1 s6 =>
              codeAny (model P w) A (.compStart (.SetComp el [⟨t0, i0, f0, 0⟩, ⟨t1, i1, f1, 0⟩] sc pos) 1 it1 acc env) (fun r s7 => match r with
                | .ok _ => ∃ m, m < n ∧ J m s7
                | .error _ => False) s6) (notedBy (model P w) A env fun e s8 => R (.error e) s8) s5) (notedBy (model P w) A env fun e s8 => R (.error e) s8) s4
            else ∃ m, m < n ∧ J m s4) (notedBy (model P w) A env fun e s8 => R (.error e) s8) s3) (notedBy (model P w) A env fun e s8 => R (.error e) s8) s2) (notedBy (model P w) A env fun e s8 => R (.error e) s8) s1) (notedBy (model P w) A env fun e s8 => R (.error e) s8) s)
    (n : Nat) (h : J n s) : codeAny (model P w) A (.compLoop (.SetComp el [⟨t0, i0, f0, 0⟩, ⟨t1, i1, f1, 0⟩] sc pos) 0 it acc env) R s := by
  refine codeAny_loop rfl J (fun n s hJ => ?_) n h
  show wpAny _ A ((compTurn (.SetComp el [⟨t0, i0, f0, 0⟩, ⟨t1, i1, f1, 0⟩] sc pos) 0 it acc env).onRaise (fun x => do noteFrame x env; theTreesLotGoes x)) _ _ s
  refine wpAny_noted ?_
  rw [turnO_st]
  refine wpAny_bind (wpAny_standAt (wpAny_bind (wpAny_mono (turn n s hJ) (fun r s1 g1 => ?_) fun _ _ z => z)))
  cases r with
  | none => exact wpAny_pure g1
  | some v =>
    refine wpAny_bind (wpAny_mono g1 (fun _ s2 g2 => ?_) fun _ _ z => z)
    refine wpAny_bind (wpAny_mono g2 (fun _ s3 g3 => wpAny_bind (wpAny_mono g3 (fun ok s4 g4 => ?_) fun _ _ z => z)) fun _ _ z => z)
    cases ok with
    | false => exact wpAny_pure ⟨rfl, g4⟩
    | true =>
      refine wpAny_bind (wpAny_mono g4 (fun x s5 g5 => ?_) fun _ _ z => z)
      refine wpAny_bind (wpAny_standAt (wpAny_bind (wpAny_of_eq (hs x) (wpAny_bind (wpAny_holding (wpAny_mono g5 (fun it1 s6 g6 => ?_) fun _ _ z => z))))))
      refine wpAny_bind (wpAny_runOwn ?_)
      rw [Around.mark_none]
      refine codeAny_mono g6 fun r s7 g7 => ?_
      cases r with
      | ok fl =>
        first
          | exact wpAny_pure ⟨rfl, g7⟩
          | exact wpAny_bind (wpAny_pure (wpAny_pure ⟨rfl, g7⟩))
      | error e => exact g7.elim
theorem loopI_st (J : Nat → Shared → Prop)
    (turn : ∀ n s, J n s → wpAny (model P w) A (pyNext it) (fun r s1 => match r with
      | none => R (.ok .next) s1
      | some v => wpAny (model P w) A (letOwnedTupleGo t1 it v) (fun _ s2 => wpAny (model P w) A (assign t1 env v) (fun _ s3 =>
          wpAny (model P w) A (forIn f1 true fun c r => if r = true then do let ok ← isTrue c env (eval c env); pure (ForInStep.yield ok) else pure (ForInStep.yield r)) (fun ok s4 =>
            if ok = true then wpAny (model P w) A (eval el env) (fun x s5 => wpAny (model P w) A (call (.builtin "set.add") [.ref D, x]) (fun _ s6 => ∃ m, m < n ∧ J m s6) (notedBy (model P w) A env fun e s8 => R (.error e) s8) s5) (notedBy (model P w) A env fun e s8 => R (.error e) s8) s4
            else ∃ m, m < n ∧ J m s4) (notedBy (model P w) A env fun e s8 => R (.error e) s8) s3) (notedBy (model P w) A env fun e s8 => R (.error e) s8) s2) (notedBy (model P w) A env fun e s8 => R (.error e) s8) s1) (notedBy (model P w) A env fun e s8 => R (.error e) s8) s)
    (n : Nat) (h : J n s) : codeAny (model P w) A (.compLoop (.SetComp el [⟨t0, i0, f0, 0⟩, ⟨t1, i1, f1, 0⟩] sc pos) 1 it (.ref D) env) R s := by
  refine codeAny_loop rfl J (fun n s hJ => ?_) n h
  show wpAny _ A ((compTurn (.SetComp el [⟨t0, i0, f0, 0⟩, ⟨t1, i1, f1, 0⟩] sc pos) 1 it (.ref D) env).onRaise (fun x => do noteFrame x env; theTreesLotGoes x)) _ _ s
  refine wpAny_noted ?_
  rw [turnI_st]
  refine wpAny_bind (wpAny_standAt (wpAny_bind (wpAny_mono (turn n s hJ) (fun r s1 g1 => ?_) fun _ _ z => z)))
  cases r with
  | none => exact wpAny_pure g1
  | some v =>
    refine wpAny_bind (wpAny_mono g1 (fun _ s2 g2 => ?_) fun _ _ z => z)
    refine wpAny_bind (wpAny_mono g2 (fun _ s3 g3 => wpAny_bind (wpAny_mono g3 (fun ok s4 g4 => ?_) fun _ _ z => z)) fun _ _ z => z)
    cases ok with
    | false => exact wpAny_pure ⟨rfl, g4⟩
    | true => exact wpAny_bind (wpAny_bind (wpAny_mono g4 (fun x s5 g5 => wpAny_bind (wpAny_standAt (wpAny_bind (wpAny_mono g5 (fun _ s6 g6 => wpAny_pure (wpAny_pure ⟨rfl, g6⟩)) fun _ _ z => z)))) fun _ _ z => z))
theorem start1_st (h0 : codeAny (model P w) A (.compLoop (.SetComp el [⟨t0, i0, f0, 0⟩, ⟨t1, i1, f1, 0⟩] sc pos) 1 it acc env) R s)
    (h : wpAny (model P w) A (pyIter it) (fun it2 s2 => codeAny (model P w) A (.compLoop (.SetComp el [⟨t0, i0, f0, 0⟩, ⟨t1, i1, f1, 0⟩] sc pos) 1 it2 acc env) R s2) (notedBy (model P w) A env fun x s2 => R (.error x) s2) s) :
    codeAny (model P w) A (.compStart (.SetComp el [⟨t0, i0, f0, 0⟩, ⟨t1, i1, f1, 0⟩] sc pos) 1 it acc env) R s := by
  refine codeAny_of_tree ?_
  show wpAny _ _ ((compStart (.SetComp el [⟨t0, i0, f0, 0⟩, ⟨t1, i1, f1, 0⟩] sc pos) 1 it acc env).onRaise (fun x => do noteFrame x env; standAt theWindowsPlace)) _ _ s
  refine wpAny_notedAt ?_
  unfold compStart
  show wpAny _ _ (ask >>= _) _ _ s
  refine wpAny_bind (wpAny_askSetting (wpAny_ite ?_))
  split
  · first
      | exact wpAny_bind (wpAny_pure (wpAny_pure ⟨rfl, h0⟩))
      | exact wpAny_pure ⟨rfl, h0⟩
  · first
      | exact wpAny_bind (wpAny_rule (wpAny_bind (wpAny_standAt (wpAny_bind (wpAny_mono h (fun it2 s2 z => wpAny_pure ⟨rfl, z⟩) fun _ _ x => x)))))
      | (refine wpAny_bind (wpAny_rule ?_); show wpAny _ _ (standAt i1.pos >>= _) _ _ s; exact wpAny_bind (wpAny_standAt (wpAny_bind (wpAny_mono h (fun it2 s2 z => wpAny_pure ⟨rfl, z⟩) fun _ _ x => x))))
end
section
variable {X : Cx}
def tst2 (w : World) (wi : TI) (g : TG) (tt : TT) (wi1 : TI) (g1 : TG) (tt1 : TT) (te : TE) (vs vs1 : List Nat) : TE := fun σ H Q => wi σ H fun J H1 => ∀ D, H1 D = none → ∃ W : Nat → Nat → Hp → Prop, (∃ m, W 0 m (upd H1 D (SetT w D []))) ∧ ∀ i m H, W i m H →
  (J.stop i H ∧ Q (.ref D) H) ∨ (J.go i H ∧ ∃ Nx : Hp → Prop, (∀ H2, Nx H2 → ∃ k, k < m ∧ W (i + 1) k H2) ∧ ∀ x H2, J.yld i H x H2 → g x (wipe σ vs) H2 fun σ2 H3 => wipe σ2 vs = wipe σ vs ∧ tt σ2 H3 fun b H4 =>
    if b = true then wi1 σ2 H4 fun J1 H5 => ∃ W1 : Nat → Nat → Hp → Prop, (∃ m, W1 0 m H5) ∧ ∀ j k H, W1 j k H →
      (J1.stop j H ∧ Nx H) ∨ (J1.go j H ∧ ∃ Nx1 : Hp → Prop, (∀ H6, Nx1 H6 → ∃ q, q < k ∧ W1 (j + 1) q H6) ∧ ∀ x H6, J1.yld j H x H6 → g1 x (wipe σ2 vs1) H6 fun σ3 H7 => wipe σ3 vs1 = wipe σ2 vs1 ∧ tt1 σ3 H7 fun b H8 =>
        if b = true then te σ3 H8 fun y H9 => ∃ (k : Str) (L : List Str), y = .str k ∧ H9 D = some (SetT w D L) ∧ L.length + 1 < scanBound ∧ Nx1 (upd H9 D (SetT w D (ins L k))) else Nx1 H8)
    else Nx H4)
theorem core_st {pins : List (Addr × Obj)} {s : Shared} {σ : L2.St} {H : Hp} {Q : VK} {el tg iter tg1 iter1 : Expr} {ifs ifs1 : List Expr} {scope : Scope} {own : List (Str × Nat)} {vs1 : List Nat} {pos pos2 : Pos} {wi wi1 : TI} {g g1 : TG} {tt tt1 : TT} {te : TE} {use : Option (Value → Sem Unit)} {Qf : Value → Shared → Prop}
    (hc : X.calm = true) (hN : X.N.Nodup) (I : Inv X pins σ H s) (hi : PI X tg iter wi) (ok : BlkOk X.N X.env.scope scope own) (hv : ∀ i ∈ vs1, i ∈ own.map (·.2))
    (hg : ∀ (s : Shared) (H : Hp) (C : Addr) (cl : List (Str × Addr)) (fp : List Addr), PG (X.blk s H scope (compEnvC scope cl C X.env) fp) tg g)
    (ht : ∀ (s : Shared) (H : Hp) (C : Addr) (cl : List (Str × Addr)) (fp : List Addr), PTs (X.blk s H scope (compEnvC scope cl C X.env) fp) ifs tt)
    (he : ∀ (s : Shared) (H : Hp) (C : Addr) (cl : List (Str × Addr)) (fp : List Addr), PE (X.blk s H scope (compEnvC scope cl C X.env) fp) el te) (hs : ∀ x, foldedSetIterable iter X.env x = pure x)
    (hi1 : ∀ (s : Shared) (H : Hp) (C : Addr) (cl : List (Str × Addr)) (fp : List Addr), PI (X.blk s H scope (compEnvC scope cl C X.env) fp) tg1 iter1 wi1)
    (hg1 : ∀ (s : Shared) (H : Hp) (C : Addr) (cl : List (Str × Addr)) (fp : List Addr), PG (X.blk s H scope (compEnvC scope cl C X.env) fp) tg1 g1)
    (ht1 : ∀ (s : Shared) (H : Hp) (C : Addr) (cl : List (Str × Addr)) (fp : List Addr), PTs (X.blk s H scope (compEnvC scope cl C X.env) fp) ifs1 tt1)
    (hs1 : ∀ env x, foldedSetIterable iter1 env x = pure x) (h : tst2 X.w wi g tt wi1 g1 tt1 te (own.map (·.2)) vs1 σ H Q)
    (back : ∀ D C s2 m H2, Inv X pins σ H2 s2 → Q (.ref D) H2 → s2.heap.Ns C m → FpOk X pins H2 C → compPost (model X.prog X.w) X.A X.xe use Qf (.ref D) C (.ok .next) s2) :
    wpAny (model X.prog X.w) X.A (comprehension (.SetComp el [⟨tg, iter, ifs, 0⟩, ⟨tg1, iter1, ifs1, 0⟩] scope pos) scope X.env pos2 (newSet (.type "set")) false (eval iter X.env) use) Qf X.xe s := by
  have clo : ∀ y ∈ scope.names, y.2 = .free → ∃ c, X.env.cells.lookup y.1 = some c := fun y hy e => by
    rcases ok.free y hy e with z | z
    · exact I.ok.has _ (Or.inl z)
    · exact I.ok.has _ (Or.inr z)
  refine wpAny_comprehension_free (use := use) rfl hs (closure_ok clo) ok.kind (fun y hy e => by rw [ok.uniq y hy, e]) (thn (hi.run pins s σ H _ I h) fun xv s1 hx => thn hx fun itv s2 h2 => ?_)
  obtain ⟨it, fp, tn, J, H2, e, I2, T, st2, f2, q⟩ := h2
  subst e
  refine PpSet.newSet_ok (newEnv_comp ?_)
  generalize hD : s2.heap.objs.size = D
  have nD : H2 D = none := I2.hok.fresh (Nat.le_of_eq hD)
  obtain ⟨W, ⟨m0, w0⟩, turn⟩ := q D nD
  generalize hs3 : ({ s2 with heap := s2.heap.push (newO X.w) } : Shared) = s3
  have I3 : Inv X pins σ (upd H2 D (SetT X.w D [])) s3 := by
    rw [← hs3]
    refine I2.laid (t' := s2.toks) (fun b u z => Heap.get?_push_of_some _ z) (Nat.le_of_eq hD) ?_
    rw [← hD]
    exact setT_ok (setRT_fresh X.w)
  have h3 : s3.heap = s2.heap.push (newO X.w) := by rw [← hs3]
  have lt2 : ∀ b ∈ fp, b < s2.heap.objs.size := fun b hb => by
    obtain ⟨u, z, _⟩ := T.obj _ _ st2 b hb
    exact Heap.lt_size z
  have f3 : ∀ b ∈ fp, FpOk X pins (upd H2 D (SetT X.w D [])) b ∧ b < s3.heap.objs.size := fun b hb => by
    have l := lt2 b hb
    have nbD : b ≠ D := by
      rw [← hD]
      exact Nat.ne_of_lt l
    refine ⟨⟨?_, (f2 b hb).2⟩, ?_⟩
    · rw [upd_ne nbD]
      exact (f2 b hb).1
    · rw [h3, Heap.size_push]
      exact Nat.lt_succ_of_lt l
  have st3 : tn 0 s3.heap := T.keep _ _ _ st2 fun b _ u z => by
    rw [h3]
    exact Heap.get?_push_of_some _ z
  have I4 := block_start I3 ok hN f3
  generalize hcl : cellsFrom (s3.heap.objs.size + 1) scope.names (cloFrom X.env.cells scope.names []) = cc at I4
  have pg := hg s3 (upd H2 D (SetT X.w D [])) s3.heap.objs.size cc fp
  have pt := ht s3 (upd H2 D (SetT X.w D [])) s3.heap.objs.size cc fp
  have pe := he s3 (upd H2 D (SetT X.w D [])) s3.heap.objs.size cc fp
  have pi1 := hi1 s3 (upd H2 D (SetT X.w D [])) s3.heap.objs.size cc fp
  have pg1 := hg1 s3 (upd H2 D (SetT X.w D [])) s3.heap.objs.size cc fp
  have pt1 := ht1 s3 (upd H2 D (SetT X.w D [])) s3.heap.objs.size cc fp
  show codeAny _ _ (.compStart (.SetComp el [⟨tg, iter, ifs, 0⟩, ⟨tg1, iter1, ifs1, 0⟩] scope pos) 0 (.ref it) (.ref D) (compEnvC scope cc s3.heap.objs.size X.env)) (compPost (model X.prog X.w) X.A X.xe use Qf (.ref D) s3.heap.objs.size)
    { s3 with heap := pushCells (s3.heap.push { cls := .type "dict", data := .dict #[] }) scope.names }
  have nfp : ∀ b ∈ fp, (upd H2 D (SetT X.w D [])) b = none := fun b hb => (f3 b hb).1.1
  generalize hce : compEnvC scope cc s3.heap.objs.size X.env = ce at I4 pg pt pe pi1 pg1 pt1 ⊢
  have cL : ce.locals = s3.heap.objs.size := by
    subst hce
    rfl
  generalize hH3 : upd H2 D (SetT X.w D []) = H3 at I3 I4 pg pt pe pi1 pg1 pt1 w0 nfp f3
  generalize hs4 : ({ s3 with heap := pushCells (s3.heap.push { cls := .type "dict", data := .dict #[] }) scope.names } : Shared) = s4 at I4 ⊢
  have st4 : tn 0 s4.heap := T.keep _ _ _ st3 fun b _ u z => by
    rw [← hs4]
    exact pushCells_keeps _ _ _ _ (Heap.get?_push_of_some _ z)
  have free : ∀ {σ5 : L2.St} {H5 : Hp} {s5 : Shared}, Inv (X.blk s3 H3 scope ce fp) [] σ5 H5 s5 → (∀ b ∈ fp, H5 b = none) → ∀ b ∈ fp, FpOk (X.blk s3 H3 scope ce fp) [] H5 b := fun {σ5 H5 s5} I5 hn b hb =>
    ⟨hn b hb, (I5.ok.exf b hb).1, I5.ok.exfs b hb, Or.inl hb, fun x c z => (I5.ok.exf b hb).2 x c z, fun p hp => absurd (show p ∈ ([] : List (Addr × Obj)) ++ [] from hp) (by simp)⟩
  have loop : codeAny (model X.prog X.w) X.A (.compLoop (.SetComp el [⟨tg, iter, ifs, 0⟩, ⟨tg1, iter1, ifs1, 0⟩] scope pos) 0 (.ref it) (.ref D) ce) (compPost (model X.prog X.w) X.A X.xe use Qf (.ref D) s3.heap.objs.size) s4 := by
    refine loopO_st (hs1 ce) (fun n s5 => ∃ i H5, Inv (X.blk s3 H3 scope ce fp) [] (wipe σ (own.map (·.2))) H5 s5 ∧ tn i s5.heap ∧ (∀ b ∈ fp, H5 b = none) ∧ W i n H5) (fun n s5 z => ?_) m0 ⟨0, H3, I4, st4, nfp, w0⟩
    obtain ⟨i, H5, I5, st5, n5, w5⟩ := z
    rcases turn i n H5 w5 with ⟨stop, qq⟩ | ⟨go, Nx, hNx, step⟩
    · refine thnF (T.done (X.blk s3 H3 scope ce fp) rfl rfl rfl hc i [] s5 _ H5 (fun _ _ => False) I5 (free I5 n5) st5 stop) fun r s6 z => ?_
      obtain ⟨rfl, I6⟩ := z
      have I7 : Inv X pins σ H5 s6 := I3.call' (ch := fp) I6.os I6.base I6.hok I6.bare fun b hb => ⟨(f3 b hb).1.2.2.2.1, (f3 b hb).1.2.1, (f3 b hb).1.2.2.2.2.1, (f3 b hb).1.2.2.2.2.2⟩
      have nC : H5 s3.heap.objs.size = none := by
        rw [← cL]
        exact I6.free
      obtain ⟨m, hn, _⟩ := I6.loc
      have hn2 : s6.heap.Ns s3.heap.objs.size m := by
        rw [← cL]
        exact hn
      exact back D s3.heap.objs.size s6 m H5 I7 qq hn2 (I3.fpOk (Nat.le_refl _) nC)
    · refine thnF (T.item (X.blk s3 H3 scope ce fp) rfl rfl rfl hc i [] s5 _ H5 (fun _ _ => False) I5 (free I5 n5) st5 go) fun r s6 z => ?_
      obtain ⟨u, rfl, h6⟩ := z
      refine thnF h6 fun _ s7 z7 => ?_
      obtain ⟨x, H7, I7, r7, y7, st7, n7⟩ := z7
      have P7 := I7.pinned (free I7 n7) (T.obj _ _ st7)
      refine thnF (pg.run _ s7 _ H7 x u _ P7 r7 (step x H7 y7)) fun _ s8 z8 => ?_
      obtain ⟨σ8, H8, I8, hw8, q8⟩ := z8
      refine thnF (pt.run _ s8 σ8 H8 _ I8 q8) fun b s9 z9 => ?_
      obtain ⟨H9, I9, q9⟩ := z9
      have fin : ∀ {σ9 : L2.St} {s10 : Shared} {H10 : Hp}, Inv (X.blk s3 H3 scope ce fp) ([] ++ pinsAt fp s7.heap) σ9 H10 s10 → (wipe σ (own.map (·.2))).length = σ9.length → (∀ (j : Nat) v, (wipe σ (own.map (·.2)))[j]? = some (some v) → σ9[j]? = some (some v)) → Nx H10 →
          ∃ m, m < n ∧ ∃ i H10, Inv (X.blk s3 H3 scope ce fp) [] (wipe σ (own.map (·.2))) H10 s10 ∧ tn i s10.heap ∧ (∀ b ∈ fp, H10 b = none) ∧ W i m H10 := fun {σ9 s10 H10} I10 hl hk nx => by
        obtain ⟨m1, hm, w1⟩ := hNx H10 nx
        have pin : ∀ b ∈ fp, ∀ u, s7.heap.get? b = some u → s10.heap.get? b = some u ∧ H10 b = none := fun b hb u z =>
          let y := I10.pin (b, u) (List.mem_append_right _ (List.mem_append_right _ (mem_pinsAt hb z)))
          ⟨y.1, y.2.1⟩
        refine ⟨m1, hm, i + 1, H10, (I10.unpinned (pins := [])).weak hl hk, T.keep _ _ _ st7 fun b hb u z => (pin b hb u z).1, fun b hb => ?_, w1⟩
        obtain ⟨u, z, _⟩ := T.obj _ _ st7 b hb
        exact (pin b hb u z).2
      have l8 : (wipe σ (own.map (·.2))).length = σ8.length := by rw [← hw8, wipe_length]
      have k8 : ∀ (j : Nat) v, (wipe σ (own.map (·.2)))[j]? = some (some v) → σ8[j]? = some (some v) := fun j v z => by
        rw [← hw8] at z
        exact (wipe_some z).1
      have k9 : ∀ (j : Nat) v, (wipe σ (own.map (·.2)))[j]? = some (some v) → (wipe σ8 vs1)[j]? = some (some v) := fun j v z => by
        rw [← hw8] at z
        obtain ⟨z1, z2⟩ := wipe_some z
        rw [wipe_out fun y => z2 (hv j y)]
        exact z1
      cases b with
      | false =>
        simp only [Bool.false_eq_true, if_false] at q9 ⊢
        exact fin I9 l8 k8 q9
      | true =>
        simp only [if_true] at q9 ⊢
        refine thnF (pi1.run _ s9 σ8 H9 _ I9 q9) fun xv s10 hx => thnF hx fun itv s11 h11 => ?_
        obtain ⟨it1, fp1, tn1, J1, H11, e1, I11, T1, st11, f11, W1, ⟨m1, w1⟩, turn1⟩ := h11
        subst e1
        have free1 : ∀ {H12 : Hp}, (∀ b ∈ fp1, H12 b = none) → ∀ b ∈ fp1, FpOk (X.blk s3 H3 scope ce fp) ([] ++ pinsAt fp s7.heap) H12 b := fun hn b hb => ⟨hn b hb, (f11 b hb).2⟩
        have loop1 : codeAny (model X.prog X.w) X.A (.compLoop (.SetComp el [⟨tg, iter, ifs, 0⟩, ⟨tg1, iter1, ifs1, 0⟩] scope pos) 1 (.ref it1) (.ref D) ce) (fun r s12 => match r with
              | .ok _ => ∃ m, m < n ∧ ∃ i H12, Inv (X.blk s3 H3 scope ce fp) [] (wipe σ (own.map (·.2))) H12 s12 ∧ tn i s12.heap ∧ (∀ b ∈ fp, H12 b = none) ∧ W i m H12
              | .error _ => False) s11 := by
          refine loopI_st (fun k s12 => ∃ j H12, Inv (X.blk s3 H3 scope ce fp) ([] ++ pinsAt fp s7.heap) (wipe σ8 vs1) H12 s12 ∧ tn1 j s12.heap ∧ (∀ b ∈ fp1, H12 b = none) ∧ W1 j k H12) (fun k s12 z12 => ?_) m1 ⟨0, H11, I11.weak (wipe_length _ _) (fun j v z => (wipe_some z).1), st11, fun b hb => (f11 b hb).1, w1⟩
          obtain ⟨j, H12, I12, st12, n12, w12⟩ := z12
          rcases turn1 j k H12 w12 with ⟨stop1, nx1⟩ | ⟨go1, Nx1, hNx1, step1⟩
          · refine thnF (T1.done (X.blk s3 H3 scope ce fp) rfl rfl rfl hc j _ s12 (wipe σ8 vs1) H12 (fun _ _ => False) I12 (free1 n12) st12 stop1) fun r s13 z13 => ?_
            obtain ⟨rfl, I13⟩ := z13
            exact fin I13 (l8.trans (wipe_length σ8 vs1).symm) k9 nx1
          · refine thnF (T1.item (X.blk s3 H3 scope ce fp) rfl rfl rfl hc j _ s12 (wipe σ8 vs1) H12 (fun _ _ => False) I12 (free1 n12) st12 go1) fun r s13 z13 => ?_
            obtain ⟨u1, rfl, h13⟩ := z13
            refine thnF h13 fun _ s14 z14 => ?_
            obtain ⟨x1, H14, I14, r14, y14, st14, n14⟩ := z14
            have P14 := I14.pinned (free1 n14) (T1.obj _ _ st14)
            refine thnF (pg1.run _ s14 (wipe σ8 vs1) H14 x1 u1 _ P14 r14 (step1 x1 H14 y14)) fun _ s15 z15 => ?_
            obtain ⟨σ15, H15, I15, hw15, q15⟩ := z15
            refine thnF (pt1.run _ s15 σ15 H15 _ I15 q15) fun b1 s16 z16 => ?_
            obtain ⟨H16, I16, q16⟩ := z16
            have fin1 : ∀ {s17 : Shared} {H17 : Hp}, Inv (X.blk s3 H3 scope ce fp) (([] ++ pinsAt fp s7.heap) ++ pinsAt fp1 s14.heap) σ15 H17 s17 → Nx1 H17 → ∃ m, m < k ∧ ∃ j H17, Inv (X.blk s3 H3 scope ce fp) ([] ++ pinsAt fp s7.heap) (wipe σ8 vs1) H17 s17 ∧ tn1 j s17.heap ∧ (∀ b ∈ fp1, H17 b = none) ∧ W1 j m H17 := fun {s17 H17} I17 nx => by
              obtain ⟨m2, hm, w2⟩ := hNx1 H17 nx
              have pin : ∀ b ∈ fp1, ∀ u, s14.heap.get? b = some u → s17.heap.get? b = some u ∧ H17 b = none := fun b hb u z =>
                let y := I17.pin (b, u) (List.mem_append_right _ (List.mem_append_right _ (mem_pinsAt hb z)))
                ⟨y.1, y.2.1⟩
              refine ⟨m2, hm, j + 1, H17, I17.unpinned.weak (by rw [← hw15, wipe_length]) (fun j v z => by rw [← hw15] at z; exact (wipe_some z).1), T1.keep _ _ _ st14 fun b hb u z => (pin b hb u z).1, fun b hb => ?_, w2⟩
              obtain ⟨u, z, _⟩ := T1.obj _ _ st14 b hb
              exact (pin b hb u z).2
            cases b1 with
            | false =>
              simp only [Bool.false_eq_true, if_false] at q16 ⊢
              exact fin1 I16 q16
            | true =>
              simp only [if_true] at q16 ⊢
              refine thnF (pe.run _ s16 σ15 H16 _ I16 q16) fun z1 s17 y17 => ?_
              obtain ⟨yv, H17, I17, r17, k1, L, rfl, hD17, few, nx⟩ := y17
              obtain ⟨tk, rfl⟩ := r17
              exact setRT_add (setT_get (X := X.blk s3 H3 scope ce fp) I17 hD17) few fun h18 sb r18 => fin1 (setT_write (X := X.blk s3 H3 scope ce fp) I17 hD17 sb r18) nx
        exact start1_st loop1 (T1.self X.A 0 _ _ _ st11 loop1)
  exact PpSet.codeAny_compStart_set loop (T.self X.A 0 _ _ _ st4 loop)
theorem pe_st2 {el tg iter tg1 iter1 : Expr} {ifs ifs1 : List Expr} {scope : Scope} {own : List (Str × Nat)} {vs1 : List Nat} {pos : Pos} {wi wi1 : TI} {g g1 : TG} {tt tt1 : TT} {te : TE} (hc : X.calm = true) (hN : X.N.Nodup) (hi : PI X tg iter wi) (ok : BlkOk X.N X.env.scope scope own) (hv : ∀ i ∈ vs1, i ∈ own.map (·.2))
    (hg : ∀ (s : Shared) (H : Hp) (C : Addr) (cl : List (Str × Addr)) (fp : List Addr), PG (X.blk s H scope (compEnvC scope cl C X.env) fp) tg g)
    (ht : ∀ (s : Shared) (H : Hp) (C : Addr) (cl : List (Str × Addr)) (fp : List Addr), PTs (X.blk s H scope (compEnvC scope cl C X.env) fp) ifs tt)
    (hi1 : ∀ (s : Shared) (H : Hp) (C : Addr) (cl : List (Str × Addr)) (fp : List Addr), PI (X.blk s H scope (compEnvC scope cl C X.env) fp) tg1 iter1 wi1)
    (hg1 : ∀ (s : Shared) (H : Hp) (C : Addr) (cl : List (Str × Addr)) (fp : List Addr), PG (X.blk s H scope (compEnvC scope cl C X.env) fp) tg1 g1)
    (ht1 : ∀ (s : Shared) (H : Hp) (C : Addr) (cl : List (Str × Addr)) (fp : List Addr), PTs (X.blk s H scope (compEnvC scope cl C X.env) fp) ifs1 tt1)
    (he : ∀ (s : Shared) (H : Hp) (C : Addr) (cl : List (Str × Addr)) (fp : List Addr), PE (X.blk s H scope (compEnvC scope cl C X.env) fp) el te) (hs : ∀ x, foldedSetIterable iter X.env x = pure x := by intro _; rfl) (hs1 : ∀ env x, foldedSetIterable iter1 env x = pure x := by intro _ _; rfl) :
    PE X (.SetComp el [⟨tg, iter, ifs, 0⟩, ⟨tg1, iter1, ifs1, 0⟩] scope pos) (tst2 X.w wi g tt wi1 g1 tt1 te (own.map (·.2)) vs1) := by
  refine ⟨fun pins s σ H Q I h => ?_⟩
  show wpAny _ _ (comprehension (.SetComp el [⟨tg, iter, ifs, 0⟩, ⟨tg1, iter1, ifs1, 0⟩] scope pos) scope X.env _ (newSet (.type "set")) _ _) _ _ _
  refine core_st hc hN I hi ok hv hg ht he hs hi1 hg1 ht1 hs1 h fun D C s2 m H2 I2 q hn f => ⟨m, hn, fun h3 sb => ?_⟩
  obtain ⟨a0, a1, a2, a3, a4, a5⟩ := f
  exact ⟨.ref D, H2, I2.turned (t' := s2.toks) (fun b u hb z => (sb.2 b hb).trans z) a0 a1 a3 a4 a5, rfl, q⟩
end
end LK
namespace LK
open PySem PySem.Spec PyProof.Rows L2
/-- all but p is as it was -/
def Sab (p : Addr) (H H1 : Hp) : Prop := ∀ b o, b ≠ p → H b = some o → H1 b = some o
section
variable {H H1 H2 : Hp} {p : Addr}
theorem Sab.refl : Sab p H H := fun _ _ _ z => z
theorem Sab.same {H0 : Hp} (h : Sab p H H1) (s : Same H0 H) (n : H0 p = none) : Same H0 H1 := fun b o e => h b o (ne_of_none e n) (s b o e)
theorem Sab.upd {o : HO} (h : Sab p H H1) : Sab p H (upd H1 p o) := fun b u hb e => by
  rw [upd_ne hb]
  exact h b u hb e
theorem Sab.trans (h : Sab p H H1) (k : Sab p H1 H2) : Sab p H H2 := fun b o hb e => k b o hb (h b o hb e)
theorem sab_of (s : Same H H1) : Sab p H H1 := fun b o _ e => s b o e
end
/-- what a comprehension makes of the items xs: those that p keeps, each as f tells it -/
theorem lcr {J : It} {xs : List V} {p : V → Bool} {f : V → V} {g : TG} {tt : TT} {te : TE} {vs : List Nat} {σ : L2.St} {H1 : Hp} {D : Addr} {Qd : Hp → Prop}
    (hgo : ∀ (i : Nat) (H : Hp), i < xs.length → Sab D H1 H → J.go i H) (hstop : ∀ H, Sab D H1 H → J.stop xs.length H) (hy : ∀ (i : Nat) (H : Hp) (v : V) (H2 : Hp), Sab D H1 H → i < xs.length → J.yld i H v H2 → Same H H2 ∧ xs[i]? = some v) (hz : xs.length ≤ sizeLine) (hD : H1 D = none)
    (turn : ∀ (i : Nat) (x : V) (H : Hp) (R : V → Hp → Prop) (R0 : Hp → Prop), xs[i]? = some x → Sab D H1 H → (∀ H2, Same H H2 → p x = true → R (f x) H2) → (∀ H2, Same H H2 → p x = false → R0 H2) → g x (wipe σ vs) H fun σ2 H2 => wipe σ2 vs = wipe σ vs ∧ tt σ2 H2 fun b H3 => if b = true then te σ2 H3 R else R0 H3)
    (k : ∀ H, Same H1 H → H D = some (.lst ((xs.filter p).map f)) → Qd H) :
    ∃ W : Nat → Nat → Hp → Prop, (∃ m, W 0 m (upd H1 D (.lst []))) ∧ ∀ i m H, W i m H → (J.stop i H ∧ Qd H) ∨ (J.go i H ∧ ∃ Nx : Hp → Prop, (∀ H2, Nx H2 → ∃ m2, m2 < m ∧ W (i + 1) m2 H2) ∧ ∀ x H2, J.yld i H x H2 → g x (wipe σ vs) H2 fun σ2 H3 => wipe σ2 vs = wipe σ vs ∧ tt σ2 H3 fun b H4 =>
      if b = true then te σ2 H4 fun y H5 => ∃ acc, H5 D = some (.lst acc) ∧ acc.length < sizeLine ∧ Nx (upd H5 D (.lst (acc ++ [y]))) else Nx H4) := by
  refine ⟨fun i m H => m = xs.length - i ∧ i ≤ xs.length ∧ Sab D H1 H ∧ H D = some (.lst (((xs.take i).filter p).map f)), ⟨xs.length, rfl, Nat.zero_le _, fun b o hb e => by rw [upd_ne hb]; exact e, upd_same⟩, ?_⟩
  rintro i m H ⟨rfl, hi, sb, hl⟩
  by_cases lt : i < xs.length
  · refine .inr ⟨hgo i H lt sb, fun H2 => i + 1 ≤ xs.length ∧ Sab D H1 H2 ∧ H2 D = some (.lst (((xs.take (i + 1)).filter p).map f)), fun H2 z => ⟨xs.length - (i + 1), by omega, rfl, z⟩, fun x H2 y => ?_⟩
    obtain ⟨s2, hx⟩ := hy i H x H2 sb lt y
    have sb2 : Sab D H1 H2 := sb.trans (sab_of s2)
    have hl2 := s2 _ _ hl
    refine turn i x H2 _ _ hx sb2 (fun H3 s3 hp => ?_) (fun H3 s3 hp => ?_)
    · refine ⟨_, s3 _ _ hl2, ?_, lt, (sb2.trans (sab_of s3)).upd, ?_⟩
      · rw [List.length_map]
        have z1 := List.length_filter_le p (xs.take i)
        rw [List.length_take] at z1
        omega
      · rw [upd_same, List.take_add_one, hx, List.filter_append, List.map_append]
        simp [hp]
    · refine ⟨lt, sb2.trans (sab_of s3), ?_⟩
      rw [s3 _ _ hl2, List.take_add_one, hx, List.filter_append, List.map_append]
      simp [hp]
  · have e : i = xs.length := by omega
    subst e
    rw [List.take_length] at hl
    exact .inl ⟨hstop H sb, k H (sb.same (Same.refl _) hD) hl⟩
section
variable {K : PySem.W.Frag} {a D : Addr} {xs : List V} {H1 : Hp}
theorem ne_fresh {o : HO} (h : H1 a = some o) (n : H1 D = none) : a ≠ D := ne_of_none h n
/-- a list, a tuple that stands is walked -/
theorem itl_lst (h : H1 a = some (.lst xs)) (n : H1 D = none) : (∀ i H, i < xs.length → Sab D H1 H → (Itl K a).go i H) ∧ (∀ H, Sab D H1 H → (Itl K a).stop xs.length H) ∧ (∀ i H v H2, Sab D H1 H → i < xs.length → (Itl K a).yld i H v H2 → Same H H2 ∧ xs[i]? = some v) := by
  have st : ∀ H, Sab D H1 H → SqL K H a xs := fun H s => SqL.of (s _ _ (ne_of_none h n) h)
  refine ⟨fun i H lt s => ⟨xs, xs[i], st H s, List.getElem?_eq_getElem lt⟩, fun H s => ⟨xs, st H s, Nat.le_refl _⟩, fun i H v H2 s lt y => ?_⟩
  obtain ⟨rfl, f⟩ := y
  exact ⟨Same.refl _, f _ (st H2 s)⟩
theorem itt_tup (h : H1 a = some (.tup xs)) (n : H1 D = none) : (∀ i H, i < xs.length → Sab D H1 H → (Itt K a).go i H) ∧ (∀ H, Sab D H1 H → (Itt K a).stop xs.length H) ∧ (∀ i H v H2, Sab D H1 H → i < xs.length → (Itt K a).yld i H v H2 → Same H H2 ∧ xs[i]? = some v) := by
  have st : ∀ H, Sab D H1 H → SqT K H a xs := fun H s => SqT.of (s _ _ (ne_of_none h n) h)
  refine ⟨fun i H lt s => ⟨xs, xs[i], st H s, List.getElem?_eq_getElem lt⟩, fun H s => ⟨xs, st H s, Nat.le_refl _⟩, fun i H v H2 s lt y => ?_⟩
  obtain ⟨rfl, f⟩ := y
  exact ⟨Same.refl _, f _ (st H2 s)⟩
/-- the signs of a text -/
def signs (z : Str) : List V := z.cps.toList.map fun c => .str ⟨#[c]⟩
theorem its_signs {z : Str} : (∀ i H, i < (signs z).length → Sab D H1 H → (Its z).go i H) ∧ (∀ H, Sab D H1 H → (Its z).stop (signs z).length H) ∧ (∀ i H v H2, Sab D H1 H → i < (signs z).length → (Its z).yld i H v H2 → Same H H2 ∧ (signs z)[i]? = some v) := by
  have e : (signs z).length = z.cps.size := by
    unfold signs
    rw [List.length_map, Array.length_toList]
  refine ⟨fun i H lt _ => ?_, fun H _ => ?_, fun i H v H2 _ lt y => ?_⟩
  · rw [e] at lt
    exact lt
  · rw [e]
    exact Nat.le_refl _
  · obtain ⟨rfl, c, hc, rfl⟩ := y
    refine ⟨Same.refl _, ?_⟩
    unfold signs
    rw [List.getElem?_map, Array.getElem?_toList, hc]
    rfl
/-- the numbers of a range -/
def nums (lo : Int) (n : Nat) : List V := (List.range n).map fun i => .int (lo + (i : Nat))
theorem itr_nums {lo : Int} {n : Nat} : (∀ i H, i < (nums lo n).length → Sab D H1 H → (Itr lo n).go i H) ∧ (∀ H, Sab D H1 H → (Itr lo n).stop (nums lo n).length H) ∧ (∀ i H v H2, Sab D H1 H → i < (nums lo n).length → (Itr lo n).yld i H v H2 → Same H H2 ∧ (nums lo n)[i]? = some v) := by
  have e : (nums lo n).length = n := by
    unfold nums
    rw [List.length_map, List.length_range]
  refine ⟨fun i H lt _ => ?_, fun H _ => ?_, fun i H v H2 _ lt y => ?_⟩
  · rw [e] at lt
    exact lt
  · rw [e]
    exact Nat.le_refl _
  · obtain ⟨rfl, rfl⟩ := y
    rw [e] at lt
    refine ⟨Same.refl _, ?_⟩
    unfold nums
    rw [List.getElem?_map, List.getElem?_range lt]
    rfl
end
end LK
namespace LK
open PySem PySem.Spec PyProof.Rows L2
/-- what J walks: n items, the i-th as It tells it -/
structure Walk (J : It) (n : Nat) (It : Nat → V → Hp → Prop) (H1 : Hp) (D : Addr) : Prop where
  go : ∀ (i : Nat) (H : Hp), i < n → Sab D H1 H → J.go i H
  stop : ∀ (H : Hp), Sab D H1 H → J.stop n H
  yld : ∀ (i : Nat) (H : Hp) (v : V) (H2 : Hp), Sab D H1 H → i < n → J.yld i H v H2 → Same H H2 ∧ It i v H2
def ItL (xs : List V) (i : Nat) (v : V) (_ : Hp) : Prop := xs[i]? = some v
section
variable {K : PySem.W.Frag} {a b D : Addr} {xs ys : List V} {H1 : Hp}
theorem walk_lst (h : H1 a = some (.lst xs)) (n : H1 D = none) : Walk (Itl K a) xs.length (ItL xs) H1 D := ⟨(itl_lst h n).1, (itl_lst h n).2.1, (itl_lst h n).2.2⟩
theorem walk_tup (h : H1 a = some (.tup xs)) (n : H1 D = none) : Walk (Itt K a) xs.length (ItL xs) H1 D := ⟨(itt_tup h n).1, (itt_tup h n).2.1, (itt_tup h n).2.2⟩
theorem walk_signs {z : Str} : Walk (Its z) (signs z).length (ItL (signs z)) H1 D := ⟨its_signs.1, its_signs.2.1, its_signs.2.2⟩
theorem walk_nums {lo : Int} {n : Nat} : Walk (Itr lo n) n (ItL (nums lo n)) H1 D := by
  have e : (nums lo n).length = n := by
    unfold nums
    rw [List.length_map, List.length_range]
  have w : Walk (Itr lo n) (nums lo n).length (ItL (nums lo n)) H1 D := ⟨itr_nums.1, itr_nums.2.1, itr_nums.2.2⟩
  rw [e] at w
  exact w
/-- the pairs of two rows -/
def ItP (xs ys : List V) (i : Nat) (v : V) (H : Hp) : Prop := ∃ T x y, v = .ref T ∧ H T = some (.tup [x, y]) ∧ xs[i]? = some x ∧ ys[i]? = some y
theorem walk_zipL (ha : H1 a = some (.lst xs)) (hb : H1 b = some (.lst ys)) (n : H1 D = none) : Walk (Itz K a b) (min xs.length ys.length) (ItP xs ys) H1 D := by
  have sa : ∀ H, Sab D H1 H → SqL K H a xs := fun H s => SqL.of (s _ _ (ne_of_none ha n) ha)
  have sb : ∀ H, Sab D H1 H → SqL K H b ys := fun H s => SqL.of (s _ _ (ne_of_none hb n) hb)
  refine ⟨fun i H lt s => ⟨xs, ys, xs[i]'(by omega), ys[i]'(by omega), sa H s, sb H s, List.getElem?_eq_getElem _, List.getElem?_eq_getElem _⟩, fun H s => ⟨xs, ys, sa H s, sb H s, by omega⟩, fun i H v H2 s lt y => ?_⟩
  obtain ⟨T, x, y, rfl, nT, rfl, f, g⟩ := y
  exact ⟨same_upd nT, T, x, y, rfl, upd_same, f _ (sa H s), g _ (sb H s)⟩
theorem walk_zipT (ha : H1 a = some (.tup xs)) (hb : H1 b = some (.tup ys)) (n : H1 D = none) : Walk (RZ.ItzT K a b) (min xs.length ys.length) (ItP xs ys) H1 D := by
  have sa : ∀ H, Sab D H1 H → SqT K H a xs := fun H s => SqT.of (s _ _ (ne_of_none ha n) ha)
  have sb : ∀ H, Sab D H1 H → SqT K H b ys := fun H s => SqT.of (s _ _ (ne_of_none hb n) hb)
  refine ⟨fun i H lt s => ⟨xs, ys, xs[i]'(by omega), ys[i]'(by omega), sa H s, sb H s, List.getElem?_eq_getElem _, List.getElem?_eq_getElem _⟩, fun H s => ⟨xs, ys, sa H s, sb H s, by omega⟩, fun i H v H2 s lt y => ?_⟩
  obtain ⟨T, x, y, rfl, nT, rfl, f, g⟩ := y
  exact ⟨same_upd nT, T, x, y, rfl, upd_same, f _ (sa H s), g _ (sb H s)⟩
end
theorem get_keep {outs : List (Option V)} {i : Nat} {o : Option V} (h : outs[i]? = some o) : (outs.take (i + 1)).filterMap id = (outs.take i).filterMap id ++ o.toList := by
  rw [List.take_add_one, h, List.filterMap_append]
  cases o <;> rfl
/-- a comprehension whose i-th item makes outs[i] (or nothing) -/
theorem lco {J : It} {n : Nat} {It : Nat → V → Hp → Prop} (outs : List (Option V)) {g : TG} {tt : TT} {te : TE} {vs : List Nat} {σ : L2.St} {H1 : Hp} {D : Addr} {Qd : Hp → Prop}
    (w : Walk J n It H1 D) (hl : outs.length = n) (hz : n ≤ sizeLine) (hD : H1 D = none)
    (turn : ∀ (i : Nat) (x : V) (o : Option V) (H : Hp) (R : V → Hp → Prop) (R0 : Hp → Prop), i < n → It i x H → outs[i]? = some o → Same H1 H → (∀ v H2, o = some v → Same H H2 → R v H2) → (∀ H2, o = none → Same H H2 → R0 H2) →
      g x (wipe σ vs) H fun σ2 H2 => wipe σ2 vs = wipe σ vs ∧ tt σ2 H2 fun b H3 => if b = true then te σ2 H3 R else R0 H3)
    (k : ∀ H, Same H1 H → H D = some (.lst (outs.filterMap id)) → Qd H) :
    ∃ W : Nat → Nat → Hp → Prop, (∃ m, W 0 m (upd H1 D (.lst []))) ∧ ∀ i m H, W i m H → (J.stop i H ∧ Qd H) ∨ (J.go i H ∧ ∃ Nx : Hp → Prop, (∀ H2, Nx H2 → ∃ m2, m2 < m ∧ W (i + 1) m2 H2) ∧ ∀ x H2, J.yld i H x H2 → g x (wipe σ vs) H2 fun σ2 H3 => wipe σ2 vs = wipe σ vs ∧ tt σ2 H3 fun b H4 =>
      if b = true then te σ2 H4 fun y H5 => ∃ acc, H5 D = some (.lst acc) ∧ acc.length < sizeLine ∧ Nx (upd H5 D (.lst (acc ++ [y]))) else Nx H4) := by
  refine ⟨fun i m H => m = n - i ∧ i ≤ n ∧ Sab D H1 H ∧ H D = some (.lst ((outs.take i).filterMap id)), ⟨n, rfl, Nat.zero_le _, fun b o hb e => by rw [upd_ne hb]; exact e, upd_same⟩, ?_⟩
  rintro i m H ⟨rfl, hi, sb, hh⟩
  by_cases lt : i < n
  · have lo : i < outs.length := by omega
    refine .inr ⟨w.go i H lt sb, fun H2 => i + 1 ≤ n ∧ Sab D H1 H2 ∧ H2 D = some (.lst ((outs.take (i + 1)).filterMap id)), fun H2 z => ⟨n - (i + 1), by omega, rfl, z⟩, fun x H2 y => ?_⟩
    obtain ⟨s2, hx⟩ := w.yld i H x H2 sb lt y
    have sb2 : Sab D H1 H2 := sb.trans (sab_of s2)
    have hl2 := s2 _ _ hh
    have ho := List.getElem?_eq_getElem lo
    refine turn i x _ H2 _ _ lt hx ho (sb2.same (Same.refl _) hD) (fun v H3 e s3 => ?_) (fun H3 e s3 => ?_)
    · refine ⟨_, s3 _ _ hl2, ?_, lt, (sb2.trans (sab_of s3)).upd, ?_⟩
      · have z1 := List.length_filterMap_le id (outs.take i)
        rw [List.length_take] at z1
        omega
      · rw [upd_same, get_keep ho, e]
        rfl
    · refine ⟨lt, sb2.trans (sab_of s3), ?_⟩
      rw [s3 _ _ hl2, get_keep ho, e]
      simp
  · have e : i = n := by omega
    subst e
    rw [List.take_of_length_le (by omega)] at hh
    exact .inl ⟨w.stop H sb, k H (sb.same (Same.refl _) hD) hh⟩
theorem keep_some {α : Type} (xs : List α) (f : α → V) : (xs.map fun x => some (f x)).filterMap id = xs.map f := by
  induction xs with
  | nil => rfl
  | cons x xs ih => simp [ih]
/-! ### data -/
mutual
theorem Dr.mono {H H1 : Hp} (s : Same H H1) : ∀ {v : V} {d : PyData}, Dr H v d → Dr H1 v d
  | _, _, .non => .non
  | _, _, .bl b => .bl b
  | _, _, .int i => .int i
  | _, _, .str x => .str x
  | _, _, .lst h k => .lst (s _ _ h) (DrAll.mono s k)
  | _, _, .tup h k => .tup (s _ _ h) (DrAll.mono s k)
  | _, _, .dct h => .dct (s _ _ h)
theorem DrAll.mono {H H1 : Hp} (s : Same H H1) : ∀ {vs : List V} {ds : List PyData}, DrAll H vs ds → DrAll H1 vs ds
  | _, _, .nil => .nil
  | _, _, .cons h k => .cons (Dr.mono s h) (DrAll.mono s k)
end
section
variable {H : Hp} {vs : List V} {ds : List PyData}
theorem DrAll.len : ∀ {vs : List V} {ds : List PyData}, DrAll H vs ds → vs.length = ds.length
  | _, _, .nil => rfl
  | _, _, .cons _ k => congrArg (· + 1) (DrAll.len k)
theorem DrAll.get : ∀ {vs : List V} {ds : List PyData} {i : Nat} {v : V}, DrAll H vs ds → vs[i]? = some v → ∃ d, ds[i]? = some d ∧ Dr H v d
  | _, _, 0, _, .cons h _, e => by
    cases e
    exact ⟨_, rfl, h⟩
  | _, _, i + 1, v, .cons _ k, e => by
    obtain ⟨d, h1, h2⟩ := DrAll.get (i := i) (v := v) k e
    exact ⟨d, h1, h2⟩
theorem DrAll.strs : ∀ {vs : List V} {zs : List Str}, DrAll H vs (zs.map PyData.str) → vs = zs.map V.str
  | _, [], .nil => rfl
  | _, z :: zs, .cons h k => by
    cases h
    rw [DrAll.strs k]
    rfl
end
def isStrD : PyData → Bool
  | .str _ => true
  | _ => false
def isTupD : PyData → Bool
  | .tuple _ => true
  | _ => false
section
variable {K : PySem.W.Frag} {H : Hp} {v : V} {d : PyData} {Q : VK}
theorem isi_str (h : Dr H v d) (q : Q (.bl (isStrD d)) H) : rIsi K [v, .ty "str"] H Q := by
  cases h with
  | non => exact ⟨_, _, _, _, _, rfl, .ty _, .base .non, kit_ty (show kitB "NoneType" "str" = some false by decide +kernel), q⟩
  | bl b => exact ⟨_, _, _, _, _, rfl, .ty _, .base (.bl b), kit_ty (show kitB "bool" "str" = some false by decide +kernel), q⟩
  | int i => exact ⟨_, _, _, _, _, rfl, .ty _, .base (.int i), kit_ty (show kitB "int" "str" = some false by decide +kernel), q⟩
  | str x => exact ⟨_, _, _, _, _, rfl, .ty _, .base (.str x), kit_ty (show kitB "str" "str" = some true by decide +kernel), q⟩
  | lst e _ => exact ⟨_, _, _, _, _, rfl, .ty _, .base (.lst e), kit_ty (show kitB "list" "str" = some false by decide +kernel), q⟩
  | tup e _ => exact ⟨_, _, _, _, _, rfl, .ty _, .base (.tup e), kit_ty (show kitB "tuple" "str" = some false by decide +kernel), q⟩
  | dct e => exact ⟨_, _, _, _, _, rfl, .ty _, .base (.dK e), kit_ty (show kitB "dict" "str" = some false by decide +kernel), q⟩
theorem isi_tup (h : Dr H v d) (q : Q (.bl (isTupD d)) H) : rIsi K [v, .ty "tuple"] H Q := by
  cases h with
  | non => exact ⟨_, _, _, _, _, rfl, .ty _, .base .non, kit_ty (show kitB "NoneType" "tuple" = some false by decide +kernel), q⟩
  | bl b => exact ⟨_, _, _, _, _, rfl, .ty _, .base (.bl b), kit_ty (show kitB "bool" "tuple" = some false by decide +kernel), q⟩
  | int i => exact ⟨_, _, _, _, _, rfl, .ty _, .base (.int i), kit_ty (show kitB "int" "tuple" = some false by decide +kernel), q⟩
  | str x => exact ⟨_, _, _, _, _, rfl, .ty _, .base (.str x), kit_ty (show kitB "str" "tuple" = some false by decide +kernel), q⟩
  | lst e _ => exact ⟨_, _, _, _, _, rfl, .ty _, .base (.lst e), kit_ty (show kitB "list" "tuple" = some false by decide +kernel), q⟩
  | tup e _ => exact ⟨_, _, _, _, _, rfl, .ty _, .base (.tup e), kit_ty (show kitB "tuple" "tuple" = some true by decide +kernel), q⟩
  | dct e => exact ⟨_, _, _, _, _, rfl, .ty _, .base (.dK e), kit_ty (show kitB "dict" "tuple" = some false by decide +kernel), q⟩
end
end LK
namespace LK
open PySem PySem.Spec PyProof.Rows L2
def topS (i : Nat) : Stmt := PySem.Challenge.pw_linkorder_k70_programs_as_text.main.body.getD i (.Pass ⟨0, 0, 0, 0⟩)

abbrev sNm : Stmt := topS 7
theorem scNm : FnScope ["value", "character"] ["value"] (defScope sNm) := ⟨rfl, rfl, rfl, by decide +kernel, rfl, by decide +kernel, by decide +kernel⟩
/-- what the top leaves as it was -/
structure Bi (mg : Str → Option Value) : Prop where
  len : mg "len" = none
  isi : mg "isinstance" = none
  all : mg "all" = none
  set : mg "set" = none
  tuple : mg "tuple" = none
  list : mg "list" = none
  sorted : mg "sorted" = none
  zip : mg "zip" = none
  str : mg "str" = none
def nameZ : Str := "abcdefghijklmnopqrstuvwxyz0123456789"
def isNameS (z : Str) : Bool := decide (1 ≤ z.length) && (decide (z.length ≤ 8) && z.cps.toList.all fun c => decide (c ∈ nameZ.cps.toList))
def isNameD : PyData → Bool
  | .str z => isNameS z
  | _ => false
mutual
/-- how much data there is -/
def szD : PyData → Nat
  | .str z => z.length + 1
  | .list ds => szL ds + 1
  | .tuple ds => szL ds + 1
  | _ => 1
def szL : List PyData → Nat
  | [] => 0
  | d :: ds => szD d + szL ds
end
def Fit (d : PyData) : Prop := szD d ≤ 1000000
def spB (f : PyData → Bool) : Sp := fun vs H Q _ => ∃ (v : V) (d : PyData), vs = [v] ∧ Dr H v d ∧ Fit d ∧ ∀ H2, Same H H2 → Q (.bl (f d)) H2
section
variable {P : Program} {w : World} {K : PySem.W.Frag} {mg : Str → Option Value} {base : Heap}
theorem ok_Nm {f : Addr} {fd : FuncData} {k : Nat} {t1 t2 : Tok} (F : Fun K "is_name" "is_name" sNm f fd) (T : Bi mg) (mNC : mg "NAME_CHARACTERS" = some (.str nameZ t1)) (mLN : mg "LONGEST_NAME" = some (.int 8 t2)) : FnOk P w K mg base CX0 (k + 1) f fd ["value"] (spB isNameD) := by
  refine F.ok scNm (fun vs H Q E h => ?_) (fun cdv A outer s H vs Q E hr h => ?_)
  · obtain ⟨v, d, rfl, _⟩ := h
    rfl
  · obtain ⟨v, d, rfl, hd, hf, q⟩ := h
    refine ⟨_, (pss_cons (ps_if (PW.pt (pw_or (pt_not (pt_val (pe_callB call_isi (by rfl) T.isi (by decide +kernel) (pa_cons (pv 0) (pa_cons (pe_bltn (v := .ty "str") (u := .type "str") rfl T.str (by decide +kernel) rfl) pa_nil))))) (pw_or1 (pt_not (pt_chain op_le op_le pe_int (pe_callB call_len_str (by rfl) T.len PySem.boot_len (pa_cons (pv 0) pa_nil)) (pe_glob (v := .int 8) rfl mLN ⟨_, rfl⟩)))))) (pss_one (ps_ret pe_bl)) pss_nil)
      (pss_one (ps_ret (pe_callB (cr_all rfl) (by rfl) T.all (by decide +kernel) (pa_cons (pe_lc (own := [("character", 1)]) rfl scNm.nd (pi_str (pv 0)) (blkOk_by (N := ["value", "character"]) (sc := defScope sNm) (by decide +kernel)) (fun _ _ _ _ _ => (pg_name (i := 1) scNm.nd rfl (Or.inl rfl))) (fun _ _ _ _ _ => pts_nil) (fun _ _ _ _ _ => (pe_cmpR op_in_sign (pv 1) (pe_glob (v := .str nameZ) rfl mNC ⟨_, rfl⟩) rfl))) pa_nil))))), ?_⟩
    rw [show L2.start ["value", "character"] [v] = [some v, none] from rfl]
    simp only [tSeq, tAsg, gName, tOp, tUn, tVar, tC, rI, rI0, tIfS, tTest, tCB, tCons, tNil, tRet, tRetN, tNext, tDrop, tLst, tTup, cxOf, rIxLH, rIxTH, gSub, rSetL, tAnd, tOr, tNot, tB, tIf, tCall, gTup, gCons, gNil, tPar, tAug, tAndV, tOrV, tNotV, upd_same, upd_upd, HO.lst.injEq, HO.tup.injEq, Option.some.injEq, V.int.injEq, V.ref.injEq, V.bl.injEq, V.str.injEq, List.cons.injEq, and_true, true_and, exists_eq_left', exists_eq_left, exists_and_left, exists_eq_right, exists_eq_right', List.set_cons_succ, List.set_cons_zero, List.getElem?_cons_zero, List.getElem?_cons_succ, List.cons_append, List.nil_append, List.append_nil, reduceCtorEq, false_and, and_false, exists_false, false_or, or_false, Int.reduceLT, Int.reduceLE, List.length_cons, List.length_nil, Nat.reduceAdd, implies_true, exists_const]
    refine isi_str hd ⟨_, rfl, ?_⟩
    cases hd with
    | str z =>
      have hz : z.length ≤ sizeLine := by
        have h1 : z.length + 1 ≤ 1000000 := hf
        have h2 : 1000000 ≤ sizeLine := by decide
        omega
      simp only [tChain, isStrD, Bool.not_true, Bool.false_eq_true, ↓reduceIte, tSeq, tAsg, gName, tOp, tUn, tVar, tC, rI, rI0, tIfS, tTest, tCB, tCons, tNil, tRet, tRetN, tNext, tDrop, tLst, tTup, cxOf, rIxLH, rIxTH, gSub, rSetL, tAnd, tOr, tNot, tB, tIf, tCall, gTup, gCons, gNil, tPar, tAug, tAndV, tOrV, tNotV, upd_same, upd_upd, HO.lst.injEq, HO.tup.injEq, Option.some.injEq, V.int.injEq, V.ref.injEq, V.bl.injEq, V.str.injEq, List.cons.injEq, and_true, true_and, exists_eq_left', exists_eq_left, exists_and_left, exists_eq_right, exists_eq_right', List.set_cons_succ, List.set_cons_zero, List.getElem?_cons_zero, List.getElem?_cons_succ, List.cons_append, List.nil_append, List.append_nil, reduceCtorEq, false_and, and_false, exists_false, false_or, or_false, Int.reduceLT, Int.reduceLE, List.length_cons, List.length_nil, Nat.reduceAdd, implies_true, exists_const]
      refine ⟨hz, ?_⟩
      refine ite2 (fun h1 => ?_) (fun h1 => ?_)
      · refine ite2 (fun h2 => ?_) (fun h2 => ?_)
        · have e : isNameD (.str z) = false := by
            have h3 : ¬ ((z.length : Int) ≤ 8) := by simpa using h2
            have h4 : ¬ (z.length ≤ 8) := by omega
            simp [isNameD, isNameS, h4]
          have r := q H (Same.refl _)
          rw [e] at r
          exact r
        · have h3 : z.length ≤ 8 := by
            have h3 : ((z.length : Int) ≤ 8) := by simpa using h2
            omega
          have h4 : 1 ≤ z.length := by
            have h3 : ((1 : Int) ≤ z.length) := of_decide_eq_true h1
            omega
          refine ⟨_, rfl, z, rfl, fun D nD => ?_⟩
          have e1 : (signs z).length = z.length := by
            unfold signs
            rw [List.length_map, Array.length_toList]
            rfl
          refine lco (n := (signs z).length) (It := ItL (signs z)) (z.cps.toList.map fun c => some (V.bl (decide (c ∈ nameZ.cps.toList)))) walk_signs (by unfold signs; rw [List.length_map, List.length_map]) (by omega) nD (fun i x o H2 R R0 lt hx ho s2 r1 r0 => ?_) (fun H2 s2 hD => ?_)
          · unfold ItL signs at hx
            rw [List.getElem?_map] at hx ho
            cases hc : z.cps.toList[i]? with
            | none =>
              rw [hc] at hx
              cases hx
            | some c =>
              rw [hc] at hx ho
              cases hx
              cases ho
              exact ⟨rfl, _, rfl, c, rfl, _, rfl, r1 _ _ rfl (Same.refl _)⟩
          · rw [keep_some] at hD
            refine ⟨D, z.cps.toList.map fun c => decide (c ∈ nameZ.cps.toList), rfl, SqL.of (by rw [hD, List.map_map]; rfl), ?_⟩
            have e : (z.cps.toList.map fun c => decide (c ∈ nameZ.cps.toList)).all id = isNameD (.str z) := by
              rw [List.all_map]
              simp only [isNameD, isNameS, h3, h4, decide_true, Bool.true_and]
              rfl
            rw [e]
            exact q H2 s2
      · have e : isNameD (.str z) = false := by
          have h3 : ¬ ((1 : Int) ≤ z.length) := fun h3 => h1 (decide_eq_true h3)
          have h4 : ¬ (1 ≤ z.length) := by omega
          simp [isNameD, isNameS, h4]
        have r := q H (Same.refl _)
        rw [e] at r
        exact r
    | non => exact q H (Same.refl _)
    | bl b => exact q H (Same.refl _)
    | int i => exact q H (Same.refl _)
    | lst _ _ => exact q H (Same.refl _)
    | tup _ _ => exact q H (Same.refl _)
    | dct _ => exact q H (Same.refl _)
end

end LK
namespace LK
open PySem PySem.Spec PyProof.Rows L2

abbrev sAs : Stmt := topS 8
theorem scAs : FnScope ["names", "name", "later"] ["names"] (defScope sAs) := ⟨rfl, rfl, rfl, by decide +kernel, rfl, by decide +kernel, by decide +kernel⟩
theorem same_tr {H H1 H2 : Hp} (a : Same H H1) (b : Same H1 H2) : Same H H2 := fun x o e => b x o (a x o e)
def ltS (a b : Str) : Bool := decide (a.cps.toList < b.cps.toList)
def ascS (zs : List Str) : Bool := (zs.zip zs.tail).all fun p => ltS p.1 p.2
def SeqS (H : Hp) (p : Addr) (zs : List Str) : Prop := H p = some (.lst (zs.map V.str)) ∨ H p = some (.tup (zs.map V.str))
def spL (n : Nat) (f : List Str → Bool) : Sp := fun vs H Q _ => ∃ (p : Addr) (zs : List Str), vs = [.ref p] ∧ SeqS H p zs ∧ zs.length ≤ n ∧ ∀ H2, Same H H2 → Q (.bl (f zs)) H2
theorem cut1 (xs : List V) : cutV xs (some 1) none = xs.tail := by
  unfold cutV
  have e : HT.sIx xs.length 0 (some 1) = min 1 xs.length := HT.sIx_nat _ _ 1
  rw [e, HT.sIx_none]
  cases xs with
  | nil => rfl
  | cons x xs => simp
section
variable {P : Program} {w : World} {K : PySem.W.Frag} {mg : Str → Option Value} {base : Heap}
/-- what is behind the walk of the pairs -/
theorem asc_turn {K : PySem.W.Frag} {σ : L2.St} {H : Hp} {zs : List Str} {i : Nat} {x : V} {o : Option V} {R : V → Hp → Prop} {R0 : Hp → Prop} (hx : ItP (zs.map V.str) ((zs.map V.str).tail) i x H)
    (ho : ((zs.zip zs.tail).map fun p => some (V.bl (ltS p.1 p.2)))[i]? = some o) : ∃ (T : Addr) (a b : Str), x = .ref T ∧ H T = some (.tup [.str a, .str b]) ∧ o = some (.bl (ltS a b)) := by
  obtain ⟨T, a, b, rfl, hT, ha, hb⟩ := hx
  rw [List.getElem?_map] at ho
  rw [← List.map_tail] at hb
  rw [List.getElem?_map] at ha hb
  cases h1 : zs[i]? with
  | none =>
    rw [h1] at ha
    cases ha
  | some a1 =>
    cases h2 : zs.tail[i]? with
    | none =>
      rw [h2] at hb
      cases hb
    | some b1 =>
      rw [h1] at ha
      rw [h2] at hb
      cases ha
      cases hb
      have e : (zs.zip zs.tail)[i]? = some (a1, b1) := List.getElem?_zip_eq_some.mpr ⟨h1, h2⟩
      rw [e] at ho
      cases ho
      exact ⟨T, a1, b1, rfl, hT, rfl⟩
theorem ok_As {f : Addr} {fd : FuncData} {k : Nat} (F : Fun K "are_ascending" "are_ascending" sAs f fd) (T : Bi mg) : FnOk P w K mg base CX0 (k + 1) f fd ["names"] (spL 1000000 ascS) := by
  refine F.ok scAs (fun vs H Q E h => ?_) (fun cdv A outer s H vs Q E hr h => ?_)
  · obtain ⟨v, d, rfl, _⟩ := h
    rfl
  · obtain ⟨p, zs, rfl, hp, hz, q⟩ := h
    refine ⟨_, (pss_one (ps_ret (pe_callB (cr_all rfl) (by rfl) T.all (by decide +kernel) (pa_cons (pe_lc (g := (gTup K 2 (gCons (gName 1) (gCons (gName 2) gNil)))) (own := [("name", 1), ("later", 2)]) rfl scAs.nd (RZ.pi_zipA (by rfl) T.zip (pa_cons (pv 0) (pa_cons (pe_slice (SlR.or sl_list sl_tupA) (pv 0) (po_some pe_int) po_none) pa_nil))) (blkOk_by (N := ["names", "name", "later"]) (sc := defScope sAs) (by decide +kernel)) (fun _ _ _ _ _ => (pg_tup rfl (pgs_cons (pg_name (i := 1) scAs.nd rfl (Or.inl rfl)) (pgs_cons (pg_name (i := 2) scAs.nd rfl (Or.inl rfl)) pgs_nil)))) (fun _ _ _ _ _ => pts_nil) (fun _ _ _ _ _ => (pe_cmpR op_lt_str (pv 1) (pv 2) (nomark _)))) pa_nil)))), ?_⟩
    rw [show L2.start ["names", "name", "later"] [.ref p] = [some (.ref p), none, none] from rfl]
    simp only [tSeq, tAsg, gName, tOp, tUn, tVar, tC, rI, rI0, tIfS, tTest, tCB, tCons, tNil, tRet, tRetN, tNext, tDrop, tLst, tTup, cxOf, rIxLH, rIxTH, gSub, rSetL, tAnd, tOr, tNot, tB, tIf, tCall, gTup, gCons, gNil, tPar, tAug, tAndV, tOrV, tNotV, upd_same, upd_upd, HO.lst.injEq, HO.tup.injEq, Option.some.injEq, V.int.injEq, V.ref.injEq, V.bl.injEq, V.str.injEq, List.cons.injEq, and_true, true_and, exists_eq_left', exists_eq_left, exists_and_left, exists_eq_right, exists_eq_right', List.set_cons_succ, List.set_cons_zero, List.getElem?_cons_zero, List.getElem?_cons_succ, List.cons_append, List.nil_append, List.append_nil, reduceCtorEq, false_and, and_false, exists_false, false_or, or_false, Int.reduceLT, Int.reduceLE, List.length_cons, List.length_nil, Nat.reduceAdd, implies_true, exists_const]
    have fin : ∀ (H1 : Hp) (D : Addr) (J : It), Same H H1 → H1 D = none → Walk J (min (zs.map V.str).length (zs.map V.str).tail.length) (ItP (zs.map V.str) (zs.map V.str).tail) H1 D →
        ∃ W : Nat → Nat → Hp → Prop, (∃ m, W 0 m (upd H1 D (.lst []))) ∧ ∀ i m H, W i m H → (J.stop i H ∧ rAll K [.ref D] H Q) ∨ (J.go i H ∧ ∃ Nx : Hp → Prop, (∀ H2, Nx H2 → ∃ m2, m2 < m ∧ W (i + 1) m2 H2) ∧ ∀ x H2, J.yld i H x H2 →
          (gTup K 2 (gCons (gName 1) (gCons (gName 2) gNil))) x (wipe [some (V.ref p), none, none] [1, 2]) H2 fun σ2 H3 => wipe σ2 [1, 2] = wipe [some (V.ref p), none, none] [1, 2] ∧ tYes σ2 H3 fun b H4 =>
          if b = true then (tOp (fun x y H Q => ∃ i, x = V.str i ∧ ∃ x, y = V.str x ∧ Q (V.bl (decide (i.cps.toList < x.cps.toList))) H) (tVar 1) (tVar 2)) σ2 H4 fun y H5 => ∃ acc, H5 D = some (.lst acc) ∧ acc.length < sizeLine ∧ Nx (upd H5 D (.lst (acc ++ [y]))) else Nx H4) := by
      intro H1 D J s1 nD wk
      refine lco ((zs.zip zs.tail).map fun p => some (V.bl (ltS p.1 p.2))) wk (by simp) (by rw [List.length_map]; have h2 : 1000000 ≤ sizeLine := (by decide); omega) nD (fun i x o H2 R R0 lt hx ho s2 r1 r0 => ?_) (fun H2 s2 hD => ?_)
      · obtain ⟨T, a, b, rfl, hT, rfl⟩ := asc_turn (K := K) (σ := []) (R := R) (R0 := R0) hx ho
        exact ⟨T, _, rfl, SqT.of hT, rfl, _, _, rfl, _, _, rfl, rfl, rfl, _, rfl, _, rfl, a, rfl, b, rfl, r1 _ _ rfl (Same.refl _)⟩
      · rw [keep_some] at hD
        refine ⟨D, (zs.zip zs.tail).map fun p => ltS p.1 p.2, rfl, SqL.of (by rw [hD, List.map_map]; rfl), ?_⟩
        have e : ((zs.zip zs.tail).map fun p => ltS p.1 p.2).all id = ascS zs := by
          rw [List.all_map]
          rfl
        rw [e]
        exact q H2 (same_tr s1 s2)
    rcases hp with hp | hp
    · refine ⟨_, rfl, _, rfl, 1, rfl, Or.inl ⟨p, _, rfl, SqL.of hp, fun p2 n2 => ?_⟩⟩
      rw [cut1]
      have s1 : Same H (upd H p2 (.lst (zs.map V.str).tail)) := same_upd n2
      exact ⟨p, p2, _, _, rfl, .inl ⟨SqL.of (s1 _ _ hp), SqL.of upd_same, fun D nD => fin _ D _ s1 nD (walk_zipL (s1 _ _ hp) upd_same nD)⟩⟩
    · refine ⟨_, rfl, _, rfl, 1, rfl, Or.inr ⟨p, _, rfl, SqT.of hp, fun hw => ?_, fun _ p2 n2 => ?_⟩⟩
      · have e : (zs.map V.str).tail = zs.map V.str := by
          have e1 : HT.sIx (zs.map V.str).length 0 (some 1) = min 1 (zs.map V.str).length := HT.sIx_nat _ _ 1
          have e2 := hw.1
          rw [e1] at e2
          have e3 : (zs.map V.str).length = 0 := by omega
          rw [List.eq_nil_of_length_eq_zero e3]
          rfl
        exact ⟨p, p, _, _, rfl, .inr ⟨SqT.of hp, SqT.of hp, fun D nD => fin _ D _ (Same.refl _) nD (walk_zipT hp (by rw [e]; exact hp) nD)⟩⟩
      · rw [cut1]
        have s1 : Same H (upd H p2 (.tup (zs.map V.str).tail)) := same_upd n2
        exact ⟨p, p2, _, _, rfl, .inr ⟨SqT.of (s1 _ _ hp), SqT.of upd_same, fun D nD => fin _ D _ s1 nD (walk_zipT (s1 _ _ hp) upd_same nD)⟩⟩
end
def diffS (zs : List Str) : Bool := decide ((firsts zs).length = zs.length)

end LK
namespace LK
open PySem PySem.Spec PyProof.Rows L2

/-- a def of the top, by its name -/
structure Lnk (P : Program) (w : World) (K : PySem.W.Frag) (mg : Str → Option Value) (base : Heap) (x : Str) (k : Nat) (ps : List Str) (sp : Sp) : Prop where
  ex : ∃ f fd, mg x = some (.ref f) ∧ PySem.W.keepIn K (.ref f) = true ∧ FnOk P w K mg base CX0 k f fd ps sp ∧ Binds K fd ps []
section
variable {X : Cx} {x : Str} {k : Nat} {ps : List Str} {sp : Sp} {p pos : Pos} {e : Expr} {es : List Expr} {t : TA}
theorem pe_lnk (L : Lnk X.prog X.w X.K X.mg X.base x k ps sp) (hr : Room k X.A) (hg : Gl X x) (ha : PA X (e :: es) t) (hdb : (x == ("__debug__" : Str)) = false := by decide) (he : starEach (e :: es) X.env = (false, eval e X.env) :: starEach es X.env := by rfl)
    (hpl : (backTo pos (starEach es X.env)).any (·.1) = false := by rfl) : PE X (.Call (.Name x p) (e :: es) [] pos) (tCall sp [] (fun _ _ _ => False) t) := by
  obtain ⟨f, fd, m, kp, F, b⟩ := L.ex
  exact pe_call F hr hg m kp b .nil pass0 ha hdb he hpl
theorem Lnk.up {P : Program} {w : World} {K : PySem.W.Frag} {mg : Str → Option Value} {base : Heap} {j : Nat} (L : Lnk P w K mg base x j ps sp) (h : j ≤ k) : Lnk P w K mg base x k ps sp := by
  obtain ⟨f, fd, m, kp, F, b⟩ := L.ex
  exact ⟨f, fd, m, kp, F.mono h, b⟩
theorem pe_never : PE X e (fun _ _ _ => False) := ⟨fun _ _ _ _ _ _ h => h.elim⟩
theorem ps_never {st : Stmt} : PS X st (fun _ _ _ => False) := ⟨fun _ _ _ _ _ _ h => h.elim⟩
end
abbrev sSy : Stmt := topS 9
theorem scSy : FnScope ["value", "least", "most", "symbol"] ["value", "least", "most"] (defScope sSy) := ⟨rfl, rfl, rfl, by decide +kernel, rfl, by decide +kernel, by decide +kernel⟩
def namesD : List PyData → List Str
  | [] => []
  | .str z :: ds => z :: namesD ds
  | _ :: ds => namesD ds
def areSymsL (ds : List PyData) (lo hi : Int) : Bool := (decide (lo ≤ (ds.length : Nat)) && decide ((ds.length : Nat) ≤ hi)) && (ds.all isNameD && ascS (namesD ds))
def areSymsD (d : PyData) (lo hi : Int) : Bool := match d with
  | .tuple ds => areSymsL ds lo hi
  | _ => false
theorem namesD_of : ∀ {ds : List PyData}, ds.all isNameD = true → ds = (namesD ds).map PyData.str
  | [], _ => rfl
  | .str z :: ds, h => by
    rw [List.all_cons, Bool.and_eq_true] at h
    show PyData.str z :: ds = PyData.str z :: (namesD ds).map PyData.str
    rw [← namesD_of h.2]
theorem szL_len : ∀ (ds : List PyData), ds.length ≤ szL ds
  | [] => Nat.le_refl _
  | d :: ds => by
    have h1 := szL_len ds
    have h2 : 1 ≤ szD d := by cases d <;> simp [szD]
    show ds.length + 1 ≤ szD d + szL ds
    omega
theorem szL_get : ∀ {ds : List PyData} {i : Nat} {d : PyData}, ds[i]? = some d → szD d ≤ szL ds
  | d :: ds, 0, _, e => by
    cases e
    exact Nat.le_add_right _ _
  | d :: ds, i + 1, e, h => by
    have h1 := szL_get (ds := ds) (i := i) h
    show szD e ≤ szD d + szL ds
    omega
/-- [f(x) for x in t], f a def that tells a bool of data -/
theorem lc_all {K : PySem.W.Frag} {σ : L2.St} {H : Hp} {a : Addr} {xs : List V} {ds : List PyData} {f : PyData → Bool} {j i : Nat} {R : VK} {E : XK} (hj : σ[j]? = some (some (.ref a))) (ha : H a = some (.tup xs)) (hal : DrAll H xs ds) (hz : szL ds ≤ 1000000)
    (hw : ∀ x, wipe ((wipe σ [i]).set i (some x)) [i] = wipe σ [i]) (hg : ∀ x : V, ((wipe σ [i]).set i (some x))[i]? = some (some x)) (k : ∀ D H2, Same H H2 → H2 D = some (.lst (ds.map fun d => V.bl (f d))) → R (.ref D) H2) :
    tLc (iTup K (tVar j)) (gName i) tYes (tCall (spB f) [] E (tCons (tVar i) tNil)) [i] σ H R := by
  have h0 : 1000000 ≤ sizeLine := by decide
  have h1 := szL_len ds
  have h2 := hal.len
  refine ⟨_, hj, a, rfl, ⟨_, SqT.of ha⟩, fun D nD => lco (ds.map fun d => some (V.bl (f d))) (walk_tup ha nD) (by rw [List.length_map, h2]) (by omega) nD (fun t x o H2 R R0 lt hx ho s2 r1 r0 => ?_) (fun H2 s2 hD => ?_)⟩
  · obtain ⟨d, hd, hdr⟩ := hal.get hx
    rw [List.getElem?_map, hd] at ho
    cases ho
    exact ⟨hw x, _, hg x, x, d, rfl, hdr.mono s2, Nat.le_trans (szL_get hd) hz, fun H3 s3 => r1 _ _ rfl s3⟩
  · rw [keep_some] at hD
    exact k D H2 s2 hD
theorem len2 {α : Type} : ∀ {l : List α}, l.length = 2 → ∃ a b, l = [a, b]
  | [a, b], _ => ⟨a, b, rfl⟩
theorem len3 {α : Type} : ∀ {l : List α}, l.length = 3 → ∃ a b c, l = [a, b, c]
  | [a, b, c], _ => ⟨a, b, c, rfl⟩
def spSy : Sp := fun vs H Q _ => ∃ (v : V) (d : PyData) (lo hi : Int), vs = [v, .int lo, .int hi] ∧ Dr H v d ∧ Fit d ∧ ∀ H2, Same H H2 → Q (.bl (areSymsD d lo hi)) H2
section
variable {P : Program} {w : World} {K : PySem.W.Frag} {mg : Str → Option Value} {base : Heap}
theorem ok_Sy {f : Addr} {fd : FuncData} {k : Nat} (F : Fun K "are_symbols" "are_symbols" sSy f fd) (T : Bi mg) (LNm : Lnk P w K mg base "is_name" k ["value"] (spB isNameD)) (LAs : Lnk P w K mg base "are_ascending" k ["names"] (spL 1000000 ascS)) :
    FnOk P w K mg base CX0 (k + 1) f fd ["value", "least", "most"] spSy := by
  refine F.ok scSy (fun vs H Q E h => ?_) (fun cdv A outer s H vs Q E hr h => ?_)
  · obtain ⟨v, d, lo, hi, rfl, _⟩ := h
    rfl
  · obtain ⟨v, d, lo, hi, rfl, hd, hf, q⟩ := h
    refine ⟨_, (pss_cons (ps_if (PW.pt (pw_or (pt_not (pt_val (pe_callB call_isi (by rfl) T.isi (by decide +kernel) (pa_cons (pv 0) (pa_cons (pe_bltn (v := .ty "tuple") (u := .type "tuple") rfl T.tuple (by decide +kernel) rfl) pa_nil))))) (pw_or1 (pt_not (pt_chain op_le op_le (pv 1) (pe_callB call_len_seq (by rfl) T.len PySem.boot_len (pa_cons (pv 0) pa_nil)) (pv 2)))))) (pss_one (ps_ret pe_bl)) pss_nil)
      (pss_one (ps_ret (pe_and (pe_callB (cr_all rfl) (by rfl) T.all (by decide +kernel) (pa_cons (pe_lc (own := [("symbol", 3)]) rfl scSy.nd (pi_tup (pv 0)) (blkOk_by (N := ["value", "least", "most", "symbol"]) (sc := defScope sSy) (by decide +kernel)) (fun _ _ _ _ _ => (pg_name (i := 3) scSy.nd rfl (Or.inl rfl))) (fun _ _ _ _ _ => pts_nil) (fun _ _ _ _ _ => (pe_lnk LNm hr rfl (pa_cons (pv 3) pa_nil)))) pa_nil)) (pe_one (pe_lnk LAs hr rfl (pa_cons (pv 0) pa_nil))))))), ?_⟩
    rw [show L2.start ["value", "least", "most", "symbol"] [v, .int lo, .int hi] = [some v, some (.int lo), some (.int hi), none] from rfl]
    simp only [tChain, tSeq, tAsg, gName, tOp, tUn, tVar, tC, rI, rI0, tIfS, tTest, tCB, tCons, tNil, tRet, tRetN, tNext, tDrop, tLst, tTup, cxOf, rIxLH, rIxTH, gSub, rSetL, tAnd, tOr, tNot, tB, tIf, tCall, gTup, gCons, gNil, tPar, tAug, tAndV, tOrV, tNotV, upd_same, upd_upd, HO.lst.injEq, HO.tup.injEq, Option.some.injEq, V.int.injEq, V.ref.injEq, V.bl.injEq, V.str.injEq, List.cons.injEq, and_true, true_and, exists_eq_left', exists_eq_left, exists_and_left, exists_eq_right, exists_eq_right', List.set_cons_succ, List.set_cons_zero, List.getElem?_cons_zero, List.getElem?_cons_succ, List.cons_append, List.nil_append, List.append_nil, reduceCtorEq, false_and, and_false, exists_false, false_or, or_false, Int.reduceLT, Int.reduceLE, List.length_cons, List.length_nil, Nat.reduceAdd, implies_true, exists_const]
    refine isi_tup hd ⟨_, rfl, ?_⟩
    cases hd with
    | tup ha hal =>
      rename_i a xs ds
      have hl := hal.len
      have hz : szL ds + 1 ≤ 1000000 := hf
      have hz2 := szL_len ds
      simp only [isTupD, Bool.not_true, Bool.false_eq_true, ↓reduceIte, upd_same, upd_upd, HO.lst.injEq, HO.tup.injEq, Option.some.injEq, V.int.injEq, V.ref.injEq, V.bl.injEq, V.str.injEq, List.cons.injEq, and_true, true_and, exists_eq_left', exists_eq_left, exists_and_left, exists_eq_right, exists_eq_right', List.set_cons_succ, List.set_cons_zero, List.getElem?_cons_zero, List.getElem?_cons_succ, List.cons_append, List.nil_append, List.append_nil, reduceCtorEq, false_and, and_false, exists_false, false_or, or_false, Int.reduceLT, Int.reduceLE, List.length_cons, List.length_nil, Nat.reduceAdd, implies_true, exists_const]
      refine ⟨xs, .inr (SqT.of ha), ?_⟩
      rw [hl]
      refine ite2 (fun h1 => ?_) (fun h1 => ?_)
      · refine ite2 (fun h2 => ?_) (fun h2 => ?_)
        · have e : areSymsD (.tuple ds) lo hi = false := by
            have h3 : decide (((ds.length : Nat) : Int) ≤ hi) = false := by simpa using h2
            simp only [areSymsD, areSymsL, h3, Bool.and_false, Bool.false_and]
          have r := q H (Same.refl _)
          rw [e] at r
          exact r
        · have h3 : decide (((ds.length : Nat) : Int) ≤ hi) = true := by simpa using h2
          refine lc_all rfl ha hal (by omega) (fun _ => rfl) (fun _ => rfl) (fun D H2 s2 hD => ?_)
          refine ⟨D, ds.map isNameD, rfl, SqL.of (by rw [hD, List.map_map]; rfl), ds.all isNameD, by rw [List.all_map]; rfl, ?_⟩
          refine ite2 (fun h4 => ?_) (fun h4 => ?_)
          · have e := namesD_of h4
            rw [e] at hal
            have e2 := hal.strs
            refine ⟨a, namesD ds, rfl, .inr (by rw [s2 _ _ ha, e2]), ?_, fun H3 s3 => ?_⟩
            · have e3 := congrArg List.length e
              rw [List.length_map] at e3
              omega
            · have e3 : areSymsD (.tuple ds) lo hi = ascS (namesD ds) := by
                show ((decide (lo ≤ (ds.length : Nat)) && decide ((ds.length : Nat) ≤ hi)) && (ds.all isNameD && ascS (namesD ds))) = _
                rw [h1, h3, h4]
                rfl
              rw [← e3]
              exact q H3 (same_tr s2 s3)
          · have h5 : ds.all isNameD = false := by simpa using h4
            have e3 : areSymsD (.tuple ds) lo hi = false := by
              show ((decide (lo ≤ (ds.length : Nat)) && decide ((ds.length : Nat) ≤ hi)) && (ds.all isNameD && ascS (namesD ds))) = _
              rw [h5, Bool.false_and, Bool.and_false]
            rw [← e3]
            exact q H2 s2
      · have e : areSymsD (.tuple ds) lo hi = false := by
          have h3 : decide (lo ≤ ((ds.length : Nat) : Int)) = false := by simpa using h1
          simp only [areSymsD, areSymsL, h3, Bool.false_and]
        have r := q H (Same.refl _)
        rw [e] at r
        exact r
    | non => exact q H (Same.refl _)
    | bl b => exact q H (Same.refl _)
    | int i => exact q H (Same.refl _)
    | str _ => exact q H (Same.refl _)
    | lst _ _ => exact q H (Same.refl _)
    | dct _ => exact q H (Same.refl _)
end
def isMemberD : PyData → Bool
  | .tuple [n, ds, ns] => isNameD n && (areSymsD ds 1 6 && areSymsD ns 0 8)
  | _ => false
abbrev sPg : Stmt := topS 12
theorem scPg : FnScope ["value", "defines", "needs"] ["value"] (defScope sPg) := ⟨rfl, rfl, rfl, by decide +kernel, rfl, by decide +kernel, by decide +kernel⟩
def isProgramD : PyData → Bool
  | .tuple [ds, ns] => areSymsD ds 0 200 && areSymsD ns 0 200
  | _ => false
section
variable {P : Program} {w : World} {K : PySem.W.Frag} {mg : Str → Option Value} {base : Heap}
theorem ok_Pg {f : Addr} {fd : FuncData} {k : Nat} {t1 : Tok} (F : Fun K "is_program" "is_program" sPg f fd) (T : Bi mg) (LSy : Lnk P w K mg base "are_symbols" k ["value", "least", "most"] spSy)
    (mMS : mg "MOST_SYMBOLS" = some (.int 200 t1)) : FnOk P w K mg base CX0 (k + 1) f fd ["value"] (spB isProgramD) := by
  refine F.ok scPg (fun vs H Q E h => ?_) (fun cdv A outer s H vs Q E hr h => ?_)
  · obtain ⟨v, d, rfl, _⟩ := h
    rfl
  · obtain ⟨v, d, rfl, hd, hf, q⟩ := h
    refine ⟨_, (pss_cons (ps_if (PW.pt (pw_or (pt_not (pt_val (pe_callB call_isi (by rfl) T.isi (by decide +kernel) (pa_cons (pv 0) (pa_cons (pe_bltn (v := .ty "tuple") (u := .type "tuple") rfl T.tuple (by decide +kernel) rfl) pa_nil))))) (pw_or1 (pt_cmpR op_ne (pe_callB call_len_seq (by rfl) T.len PySem.boot_len (pa_cons (pv 0) pa_nil)) pe_int (nomark _))))) (pss_one (ps_ret pe_bl)) pss_nil)
      (pss_cons (ps_asg (pv 0) (pg_tup rfl (pgs_cons (pg_name (i := 1) scPg.nd rfl (Or.inl rfl)) (pgs_cons (pg_name (i := 2) scPg.nd rfl (Or.inl rfl)) pgs_nil))))
      (pss_one (ps_ret (pe_and (pe_lnk LSy hr rfl (pa_cons (pv 1) (pa_cons pe_int (pa_cons (pe_glob (v := .int 200) rfl mMS ⟨_, rfl⟩) pa_nil)))) (pe_one (pe_lnk LSy hr rfl (pa_cons (pv 2) (pa_cons pe_int (pa_cons (pe_glob (v := .int 200) rfl mMS ⟨_, rfl⟩) pa_nil)))))))))), ?_⟩
    rw [show L2.start ["value", "defines", "needs"] [v] = [some v, none, none] from rfl]
    simp only [tSeq, tAsg, gName, tOp, tUn, tVar, tC, rI, rI0, tIfS, tTest, tCB, tCons, tNil, tRet, tRetN, tNext, tDrop, tLst, tTup, cxOf, rIxLH, rIxTH, gSub, rSetL, tAnd, tOr, tNot, tB, tIf, tCall, gTup, gCons, gNil, tPar, tAug, tAndV, tOrV, tNotV, upd_same, upd_upd, HO.lst.injEq, HO.tup.injEq, Option.some.injEq, V.int.injEq, V.ref.injEq, V.bl.injEq, V.str.injEq, List.cons.injEq, and_true, true_and, exists_eq_left', exists_eq_left, exists_and_left, exists_eq_right, exists_eq_right', List.set_cons_succ, List.set_cons_zero, List.getElem?_cons_zero, List.getElem?_cons_succ, List.cons_append, List.nil_append, List.append_nil, reduceCtorEq, false_and, and_false, exists_false, false_or, or_false, Int.reduceLT, Int.reduceLE, List.length_cons, List.length_nil, Nat.reduceAdd, implies_true, exists_const]
    refine isi_tup hd ⟨_, rfl, ?_⟩
    cases hd with
    | tup ha hal =>
      rename_i a xs ds
      have hl := hal.len
      have hz : szL ds + 1 ≤ 1000000 := hf
      simp only [isTupD, Bool.not_true, Bool.false_eq_true, ↓reduceIte, upd_same, upd_upd, HO.lst.injEq, HO.tup.injEq, Option.some.injEq, V.int.injEq, V.ref.injEq, V.bl.injEq, V.str.injEq, List.cons.injEq, and_true, true_and, exists_eq_left', exists_eq_left, exists_and_left, exists_eq_right, exists_eq_right', List.set_cons_succ, List.set_cons_zero, List.getElem?_cons_zero, List.getElem?_cons_succ, List.cons_append, List.nil_append, List.append_nil, reduceCtorEq, false_and, and_false, exists_false, false_or, or_false, Int.reduceLT, Int.reduceLE, List.length_cons, List.length_nil, Nat.reduceAdd, implies_true, exists_const]
      refine ⟨xs, .inr (SqT.of ha), rfl, _, rfl, ?_⟩
      by_cases h3 : xs.length = 2
      · have e3 : (!decide (V.int (xs.length : Nat) = V.int 2)) = false := by
          rw [h3]
          rfl
        rw [e3]
        obtain ⟨d1, d2, rfl⟩ : ∃ d1 d2, ds = [d1, d2] := len2 (hl.symm.trans h3)
        cases hal with
        | cons h1 hal =>
          cases hal with
          | cons h2 hal =>
            cases hal
            have f1 : Fit d1 := by unfold Fit; simp only [szL] at hz; omega
            have f2 : Fit d2 := by unfold Fit; simp only [szL] at hz; omega
            refine ⟨_, SqT.of ha, rfl, _, _, rfl, _, _, rfl, rfl, _, d1, _, _, rfl, h1, f1, fun H2 s2 => ⟨_, rfl, ?_⟩⟩
            refine ite2 (fun c1 => ?_) (fun c1 => ?_)
            · refine ⟨_, d2, _, _, rfl, h2.mono s2, f2, fun H3 s3 => ?_⟩
              have e : isProgramD (.tuple [d1, d2]) = areSymsD d2 0 200 := by
                show (areSymsD d1 0 200 && areSymsD d2 0 200) = _
                rw [c1]
                rfl
              rw [← e]
              exact q _ (same_tr s2 s3)
            · have e : isProgramD (.tuple [d1, d2]) = false := by
                show (areSymsD d1 0 200 && areSymsD d2 0 200) = _
                rw [Bool.eq_false_iff.mpr c1, Bool.false_and]
              rw [← e]
              exact q _ s2
      · have e3 : (!decide (V.int (xs.length : Nat) = V.int 2)) = true := by
          have h4 : ¬ V.int (xs.length : Nat) = V.int 2 := fun z => h3 (by injection z with z; omega)
          rw [decide_eq_false h4]
          rfl
        rw [e3]
        have e : isProgramD (.tuple ds) = false := by
          unfold isProgramD
          split
          · rename_i e
            cases e
            exact absurd hl h3
          · rfl
        rw [if_pos rfl]
        rw [← e]
        exact q _ (Same.refl _)
    | non => exact q H (Same.refl _)
    | bl b => exact q H (Same.refl _)
    | int i => exact q H (Same.refl _)
    | str _ => exact q H (Same.refl _)
    | lst _ _ => exact q H (Same.refl _)
    | dct _ => exact q H (Same.refl _)
end

end LK
namespace LK
open PySem PySem.Spec PyProof.Rows L2
section
variable {K : PySem.W.Frag} {a b D : Addr} {xs ys : List V} {H1 : Hp}
theorem wk_tup (h : H1 a = some (.tup xs)) (n : a ≠ D) : Walk (Itt K a) xs.length (ItL xs) H1 D := by
  have st : ∀ H, Sab D H1 H → SqT K H a xs := fun H s => SqT.of (s _ _ n h)
  refine ⟨fun i H lt s => ⟨xs, xs[i], st H s, List.getElem?_eq_getElem lt⟩, fun H s => ⟨xs, st H s, Nat.le_refl _⟩, fun i H v H2 s lt y => ?_⟩
  obtain ⟨rfl, f⟩ := y
  exact ⟨Same.refl _, f _ (st H2 s)⟩
theorem wk_lst (h : H1 a = some (.lst xs)) (n : a ≠ D) : Walk (Itl K a) xs.length (ItL xs) H1 D := by
  have st : ∀ H, Sab D H1 H → SqL K H a xs := fun H s => SqL.of (s _ _ n h)
  refine ⟨fun i H lt s => ⟨xs, xs[i], st H s, List.getElem?_eq_getElem lt⟩, fun H s => ⟨xs, st H s, Nat.le_refl _⟩, fun i H v H2 s lt y => ?_⟩
  obtain ⟨rfl, f⟩ := y
  exact ⟨Same.refl _, f _ (st H2 s)⟩
end
theorem flat_take {outss : List (List V)} {i : Nat} {os : List V} (h : outss[i]? = some os) : (outss.take (i + 1)).flatten = (outss.take i).flatten ++ os := by
  rw [List.take_add_one, h, List.flatten_append]
  simp
theorem flat_le {outss : List (List V)} {i : Nat} : (outss.take i).flatten.length ≤ outss.flatten.length := by
  conv => rhs; rw [← List.take_append_drop i outss, List.flatten_append, List.length_append]
  exact Nat.le_add_right _ _
theorem flat_lt {outss : List (List V)} {i j : Nat} {os : List V} (h : outss[i]? = some os) (hj : j < os.length) : (outss.take i).flatten.length + j < outss.flatten.length := by
  have h1 := flat_le (outss := outss) (i := i + 1)
  rw [flat_take h, List.length_append] at h1
  omega
/-- a comprehension of two clauses without ifs: the i-th item of the first makes outss[i] -/
theorem lco2 {J : It} {n : Nat} {It : Nat → V → Hp → Prop} (outss : List (List V)) {g : TG} {wi1 : TI} {g1 : TG} {te : TE} {vs vs1 : List Nat} {σ : L2.St} {H1 : Hp} {D : Addr} {Qd : Hp → Prop}
    (w : Walk J n It H1 D) (hl : outss.length = n) (hz : outss.flatten.length ≤ sizeLine) (hD : H1 D = none)
    (turn : ∀ (i : Nat) (x : V) (os : List V) (H : Hp) (K0 : L2.St → L2.It → Hp → Prop), i < n → It i x H → outss[i]? = some os → Same H1 H → (∃ acc, H D = some (.lst acc)) →
      (∀ σ2 H4 J1 (It1 : Nat → V → Hp → Prop), Same H H4 → Walk J1 os.length It1 H4 D →
        (∀ (j : Nat) (y v : V) (H5 : Hp) (R : V → Hp → Prop), j < os.length → It1 j y H5 → os[j]? = some v → Sab D H4 H5 → (∃ acc, H5 D = some (.lst acc)) → (∀ H6, Same H5 H6 → R v H6) → g1 y (wipe σ2 vs1) H5 fun σ3 H6 => wipe σ3 vs1 = wipe σ2 vs1 ∧ te σ3 H6 R) → K0 σ2 J1 H4) →
      g x (wipe σ vs) H fun σ2 H2 => wipe σ2 vs = wipe σ vs ∧ wi1 σ2 H2 fun J1 H4 => K0 σ2 J1 H4)
    (k : ∀ H, Same H1 H → H D = some (.lst outss.flatten) → Qd H) :
    ∃ W : Nat → Nat → Hp → Prop, (∃ m, W 0 m (upd H1 D (.lst []))) ∧ ∀ i m H, W i m H →
  (J.stop i H ∧ Qd H) ∨ (J.go i H ∧ ∃ Nx : Hp → Prop, (∀ H2, Nx H2 → ∃ m2, m2 < m ∧ W (i + 1) m2 H2) ∧ ∀ x H2, J.yld i H x H2 → g x (wipe σ vs) H2 fun σ2 H2 => wipe σ2 vs = wipe σ vs ∧ tYes σ2 H2 fun b H3 =>
    if b = true then wi1 σ2 H3 fun J1 H4 => ∃ W1 : Nat → Nat → Hp → Prop, (∃ m, W1 0 m H4) ∧ ∀ j k H, W1 j k H →
      (J1.stop j H ∧ Nx H) ∨ (J1.go j H ∧ ∃ Nx1 : Hp → Prop, (∀ H2, Nx1 H2 → ∃ k2, k2 < k ∧ W1 (j + 1) k2 H2) ∧ ∀ x H2, J1.yld j H x H2 → g1 x (wipe σ2 vs1) H2 fun σ3 H5 => wipe σ3 vs1 = wipe σ2 vs1 ∧ tYes σ3 H5 fun b H6 =>
        if b = true then te σ3 H6 fun y H7 => ∃ acc, H7 D = some (.lst acc) ∧ acc.length < sizeLine ∧ Nx1 (upd H7 D (.lst (acc ++ [y]))) else Nx1 H6)
    else Nx H3) := by
  refine ⟨fun i m H => m = n - i ∧ i ≤ n ∧ Sab D H1 H ∧ H D = some (.lst (outss.take i).flatten), ⟨n, rfl, Nat.zero_le _, fun b o hb e => by rw [upd_ne hb]; exact e, upd_same⟩, ?_⟩
  rintro i m H ⟨rfl, hi, sb, hh⟩
  by_cases lt : i < n
  · have lo : i < outss.length := by omega
    refine .inr ⟨w.go i H lt sb, fun H2 => i + 1 ≤ n ∧ Sab D H1 H2 ∧ H2 D = some (.lst (outss.take (i + 1)).flatten), fun H2 z => ⟨n - (i + 1), by omega, rfl, z⟩, fun x H2 y => ?_⟩
    obtain ⟨s2, hx⟩ := w.yld i H x H2 sb lt y
    have sb2 : Sab D H1 H2 := sb.trans (sab_of s2)
    have hl2 := s2 _ _ hh
    have ho := List.getElem?_eq_getElem lo
    refine turn i x _ H2 _ lt hx ho (sb2.same (Same.refl _) hD) ⟨_, hl2⟩ (fun σ2 H4 J1 It1 s4 w1 tn => ?_)
    have sb4 : Sab D H1 H4 := sb2.trans (sab_of s4)
    refine ⟨fun j k H => k = (outss[i]).length - j ∧ j ≤ (outss[i]).length ∧ Sab D H4 H ∧ H D = some (.lst ((outss.take i).flatten ++ (outss[i]).take j)), ⟨_, rfl, Nat.zero_le _, Sab.refl, by rw [s4 _ _ hl2]; simp⟩, ?_⟩
    rintro j k H5 ⟨rfl, hj, sb5, hh5⟩
    by_cases lj : j < (outss[i]).length
    · refine .inr ⟨w1.go j H5 lj sb5, fun H6 => j + 1 ≤ (outss[i]).length ∧ Sab D H4 H6 ∧ H6 D = some (.lst ((outss.take i).flatten ++ (outss[i]).take (j + 1))), fun H6 z => ⟨(outss[i]).length - (j + 1), by omega, rfl, z⟩, fun y H6 yy => ?_⟩
      obtain ⟨s6, hy⟩ := w1.yld j H5 y H6 sb5 lj yy
      have sb6 : Sab D H4 H6 := sb5.trans (sab_of s6)
      have hl6 := s6 _ _ hh5
      refine tn j y ((outss[i])[j]) H6 _ lj hy (List.getElem?_eq_getElem lj) sb6 ⟨_, hl6⟩ (fun H7 s7 => ?_)
      refine ⟨_, s7 _ _ hl6, ?_, lj, (sb6.trans (sab_of s7)).upd, ?_⟩
      · have z1 := flat_lt ho lj
        rw [List.length_append, List.length_take]
        omega
      · rw [upd_same, List.take_add_one, List.getElem?_eq_getElem lj, List.append_assoc]
        rfl
    · have e : j = (outss[i]).length := by omega
      subst e
      rw [List.take_length] at hh5
      exact .inl ⟨w1.stop H5 sb5, lt, sb4.trans sb5, by rw [hh5, flat_take ho]⟩
  · have e : i = n := by omega
    subst e
    rw [List.take_of_length_le (by omega)] at hh
    exact .inl ⟨w.stop H sb, k H (sb.same (Same.refl _) hD) hh⟩
end LK
namespace LK
open PySem PySem.Spec PyProof.Rows L2

def nm0 : PyData → Str
  | .tuple (.str z :: _) => z
  | _ => ⟨#[]⟩
def it1 : PyData → List PyData
  | .tuple (_ :: .tuple ds :: _) => ds
  | _ => []
def Sh0 (d : PyData) : Prop := ∃ z r, d = .tuple (.str z :: r)
def Sh1 (d : PyData) : Prop := ∃ y ms r, d = .tuple (y :: .tuple ms :: r)
theorem isName_str {d : PyData} (h : isNameD d = true) : ∃ z, d = .str z := by
  cases d with
  | str z => exact ⟨z, rfl⟩
  | _ => cases h
theorem areSyms_tup {d : PyData} {lo hi : Int} (h : areSymsD d lo hi = true) : ∃ ds, d = .tuple ds := by
  cases d with
  | tuple ds => exact ⟨ds, rfl⟩
  | _ => cases h
theorem isMember_sh {d : PyData} (h : isMemberD d = true) : ∃ z ds ns, d = .tuple [.str z, .tuple ds, .tuple ns] ∧ isNameS z = true ∧ areSymsL ds 1 6 = true ∧ areSymsL ns 0 8 = true := by
  unfold isMemberD at h
  split at h
  · rename_i n ds ns
    rw [Bool.and_eq_true, Bool.and_eq_true] at h
    obtain ⟨h1, h2, h3⟩ := h
    obtain ⟨z, rfl⟩ := isName_str h1
    obtain ⟨d2, rfl⟩ := areSyms_tup h2
    obtain ⟨d3, rfl⟩ := areSyms_tup h3
    exact ⟨z, d2, d3, rfl, h1, h2, h3⟩
  · cases h
def isArchiveD : PyData → Bool
  | .tuple [n, .tuple ms] => isNameD n && (ms.all isMemberD && ascS (ms.map nm0))
  | _ => false
theorem isArchive_sh {d : PyData} (h : isArchiveD d = true) : ∃ z ms, d = .tuple [.str z, .tuple ms] ∧ isNameS z = true ∧ ms.all isMemberD = true ∧ ascS (ms.map nm0) = true := by
  unfold isArchiveD at h
  split at h
  · rename_i n ms
    rw [Bool.and_eq_true, Bool.and_eq_true] at h
    obtain ⟨h1, h2, h3⟩ := h
    obtain ⟨z, rfl⟩ := isName_str h1
    exact ⟨z, ms, rfl, h1, h2, h3⟩
  · cases h
def areArchivesL (as : List PyData) : Bool := decide (as.length ≤ 8) && (as.all isArchiveD && (ascS (as.map nm0) && (decide ((as.flatMap it1).length ≤ 24) && (diffS ((as.flatMap it1).map nm0) && diffS (namesD ((as.flatMap it1).flatMap it1))))))
def areArchivesD : PyData → Bool
  | .tuple as => areArchivesL as
  | _ => false
section
variable {H : Hp}
theorem dr_sh0 {v : V} {d : PyData} (h : Dr H v d) (s : Sh0 d) : ∃ p xs, v = .ref p ∧ H p = some (.tup xs) ∧ atI xs 0 = some (.str (nm0 d)) := by
  obtain ⟨z, r, rfl⟩ := s
  cases h with
  | tup ha hal =>
    cases hal with
    | cons h1 _ =>
      cases h1
      exact ⟨_, _, rfl, ha, atI_nat (j := 0) rfl⟩
theorem dr_sh1 {v : V} {d : PyData} (h : Dr H v d) (s : Sh1 d) : ∃ p xs q os, v = .ref p ∧ H p = some (.tup xs) ∧ atI xs 1 = some (.ref q) ∧ H q = some (.tup os) ∧ DrAll H os (it1 d) := by
  obtain ⟨y, ms, r, rfl⟩ := s
  cases h with
  | tup ha hal =>
    cases hal with
    | cons h1 hal =>
      cases hal with
      | cons h2 _ =>
        cases h2 with
        | tup hb hbl => exact ⟨_, _, _, _, rfl, ha, atI_nat (j := 1) rfl, hb, hbl⟩
theorem DrAll.app : ∀ {vs us : List V} {ds es : List PyData}, DrAll H vs ds → DrAll H us es → DrAll H (vs ++ us) (ds ++ es)
  | _, _, _, _, .nil, k => k
  | _, _, _, _, .cons h t, k => .cons h (DrAll.app t k)
/-- the second items, one behind the other -/
theorem inner_ex : ∀ {xs : List V} {ds : List PyData}, DrAll H xs ds → (∀ d ∈ ds, Sh1 d) → ∃ outss : List (List V), outss.length = xs.length ∧ DrAll H outss.flatten (ds.flatMap it1) ∧
    ∀ (i : Nat) (x : V), xs[i]? = some x → ∃ p ys q os, x = .ref p ∧ H p = some (.tup ys) ∧ atI ys 1 = some (.ref q) ∧ outss[i]? = some os ∧ H q = some (.tup os)
  | _, _, .nil, _ => ⟨[], rfl, .nil, fun i x e => by simp at e⟩
  | _, _, .cons h t, s => by
    obtain ⟨outss, h1, h2, h3⟩ := inner_ex t fun d hd => s d (List.mem_cons_of_mem _ hd)
    obtain ⟨p, ys, q, os, rfl, e1, e2, e3, e4⟩ := dr_sh1 h (s _ List.mem_cons_self)
    refine ⟨os :: outss, by simp [h1], ?_, fun i x e => ?_⟩
    · rw [List.flatMap_cons, List.flatten_cons]
      exact DrAll.app e4 h2
    · cases i with
      | zero =>
        cases e
        exact ⟨p, ys, q, os, rfl, e1, e2, rfl, e3⟩
      | succ i => exact h3 i x e
end
theorem szL_flat : ∀ {ds : List PyData}, (∀ d ∈ ds, Sh1 d) → szL (ds.flatMap it1) ≤ szL ds
  | [], _ => Nat.le_refl _
  | d :: ds, s => by
    have h1 := szL_flat fun d hd => s d (List.mem_cons_of_mem _ hd)
    obtain ⟨y, ms, r, rfl⟩ := s d List.mem_cons_self
    have h2 : ∀ (a b : List PyData), szL (a ++ b) = szL a + szL b := by
      intro a b
      induction a with
      | nil => simp [szL]
      | cons x a ih =>
        show szD x + szL (a ++ b) = szD x + szL a + szL b
        omega
    rw [List.flatMap_cons, h2]
    show szL ms + _ ≤ (szD y + (szL ms + 1 + szL r)) + 1 + szL ds
    omega
/-- the turn of [x[0] for x in ..] -/
theorem nm_turn {σ : L2.St} {i t : Nat} {x : V} {xs : List V} {ds : List PyData} {o : Option V} {H H2 : Hp} {R : V → Hp → Prop} {R0 : Hp → Prop} (hal : DrAll H xs ds) (hs : ∀ d ∈ ds, Sh0 d) (hx : ItL xs t x H2) (ho : (ds.map fun d => some (V.str (nm0 d)))[t]? = some o) (s2 : Same H H2)
    (hw : ∀ x, wipe ((wipe σ [i]).set i (some x)) [i] = wipe σ [i]) (hg : ∀ x : V, ((wipe σ [i]).set i (some x))[i]? = some (some x)) (r1 : ∀ v H3, o = some v → Same H2 H3 → R v H3) :
    gName i x (wipe σ [i]) H2 fun σ2 H2 => wipe σ2 [i] = wipe σ [i] ∧ tYes σ2 H2 fun b H3 => if b = true then tOp rIxTH (tVar i) (tC (.int 0)) σ2 H3 R else R0 H3 := by
  obtain ⟨d, hd, hdr⟩ := hal.get hx
  rw [List.getElem?_map, hd] at ho
  cases ho
  obtain ⟨p, ys, rfl, e1, e2⟩ := dr_sh0 (hdr.mono s2) (hs d (List.mem_of_getElem? hd))
  exact ⟨hw _, _, hg _, p, ys, 0, _, rfl, rfl, e1, e2, r1 _ _ rfl (Same.refl _)⟩
theorem lc_nmT {K : PySem.W.Frag} {σ : L2.St} {H : Hp} {a : Addr} {xs : List V} {ds : List PyData} {j i : Nat} {R : VK} (hj : σ[j]? = some (some (.ref a))) (ha : H a = some (.tup xs)) (hal : DrAll H xs ds) (hs : ∀ d ∈ ds, Sh0 d) (hz : szL ds ≤ 1000000)
    (hw : ∀ x, wipe ((wipe σ [i]).set i (some x)) [i] = wipe σ [i]) (hg : ∀ x : V, ((wipe σ [i]).set i (some x))[i]? = some (some x)) (k : ∀ D H2, Same H H2 → H2 D = some (.lst ((ds.map nm0).map V.str)) → R (.ref D) H2) :
    tLc (iTup K (tVar j)) (gName i) tYes (tOp rIxTH (tVar i) (tC (.int 0))) [i] σ H R := by
  have h0 : 1000000 ≤ sizeLine := by decide
  have h1 := szL_len ds
  have h2 := hal.len
  refine ⟨_, hj, a, rfl, ⟨_, SqT.of ha⟩, fun D nD => lco (ds.map fun d => some (V.str (nm0 d))) (walk_tup ha nD) (by rw [List.length_map, h2]) (by omega) nD (fun t x o H2 R R0 lt hx ho s2 r1 r0 => nm_turn hal hs hx ho s2 hw hg r1) (fun H2 s2 hD => ?_)⟩
  rw [keep_some] at hD
  exact k D H2 s2 (by rw [hD, List.map_map]; rfl)
theorem lc_nmL {K : PySem.W.Frag} {σ : L2.St} {H : Hp} {a : Addr} {xs : List V} {ds : List PyData} {j i : Nat} {R : VK} (hj : σ[j]? = some (some (.ref a))) (ha : H a = some (.lst xs)) (hal : DrAll H xs ds) (hs : ∀ d ∈ ds, Sh0 d) (hz : szL ds ≤ 1000000)
    (hw : ∀ x, wipe ((wipe σ [i]).set i (some x)) [i] = wipe σ [i]) (hg : ∀ x : V, ((wipe σ [i]).set i (some x))[i]? = some (some x)) (k : ∀ D H2, Same H H2 → H2 D = some (.lst ((ds.map nm0).map V.str)) → R (.ref D) H2) :
    tLc (iList K (tVar j)) (gName i) tYes (tOp rIxTH (tVar i) (tC (.int 0))) [i] σ H R := by
  have h0 : 1000000 ≤ sizeLine := by decide
  have h1 := szL_len ds
  have h2 := hal.len
  refine ⟨_, hj, a, rfl, ⟨_, SqL.of ha⟩, fun D nD => lco (ds.map fun d => some (V.str (nm0 d))) (walk_lst ha nD) (by rw [List.length_map, h2]) (by omega) nD (fun t x o H2 R R0 lt hx ho s2 r1 r0 => nm_turn hal hs hx ho s2 hw hg r1) (fun H2 s2 hD => ?_)⟩
  rw [keep_some] at hD
  exact k D H2 s2 (by rw [hD, List.map_map]; rfl)
/-- [y for x in a for y in x[1]] -/
theorem lc2_turn {K : PySem.W.Frag} {σ : L2.St} {i1 i2 : Nat} {H H2 : Hp} {D : Addr} {xs : List V} {outss : List (List V)} {t : Nat} {x : V} {os : List V} {K0 : L2.St → L2.It → Hp → Prop}
    (hin : ∀ (i : Nat) (x : V), xs[i]? = some x → ∃ p ys q os, x = .ref p ∧ H p = some (.tup ys) ∧ atI ys 1 = some (.ref q) ∧ outss[i]? = some os ∧ H q = some (.tup os)) (nD : H D = none) (s2 : Same H H2) (hx : ItL xs t x H2) (ho : outss[t]? = some os)
    (hw : ∀ x, wipe ((wipe σ [i1, i2]).set i1 (some x)) [i1, i2] = wipe σ [i1, i2]) (hg : ∀ x : V, ((wipe σ [i1, i2]).set i1 (some x))[i1]? = some (some x))
    (hw2 : ∀ x y, wipe ((wipe ((wipe σ [i1, i2]).set i1 (some x)) [i2]).set i2 (some y)) [i2] = wipe ((wipe σ [i1, i2]).set i1 (some x)) [i2]) (hg2 : ∀ x y : V, ((wipe ((wipe σ [i1, i2]).set i1 (some x)) [i2]).set i2 (some y))[i2]? = some (some y))
    (kk : ∀ σ2 H4 J1 (It1 : Nat → V → Hp → Prop), Same H2 H4 → Walk J1 os.length It1 H4 D →
        (∀ (j : Nat) (y v : V) (H5 : Hp) (R : V → Hp → Prop), j < os.length → It1 j y H5 → os[j]? = some v → Sab D H4 H5 → (∃ acc, H5 D = some (.lst acc)) → (∀ H6, Same H5 H6 → R v H6) → gName i2 y (wipe σ2 [i2]) H5 fun σ3 H6 => wipe σ3 [i2] = wipe σ2 [i2] ∧ tVar i2 σ3 H6 R) → K0 σ2 J1 H4) :
    gName i1 x (wipe σ [i1, i2]) H2 fun σ2 H2 => wipe σ2 [i1, i2] = wipe σ [i1, i2] ∧ iTup K (tOp rIxTH (tVar i1) (tC (.int 1))) σ2 H2 fun J1 H4 => K0 σ2 J1 H4 := by
  obtain ⟨p, ys, q, os1, rfl, e1, e2, e3, e4⟩ := hin t x hx
  rw [ho] at e3
  cases e3
  refine ⟨hw _, _, hg _, p, ys, 1, _, rfl, rfl, s2 _ _ e1, e2, q, rfl, ⟨_, SqT.of (s2 _ _ e4)⟩, ?_⟩
  refine kk _ _ _ (ItL os) (Same.refl _) (wk_tup (s2 _ _ e4) (ne_of_none e4 nD)) (fun j y v H5 R lt hy hv sb ac r => ?_)
  unfold ItL at hy
  rw [hv] at hy
  cases hy
  exact ⟨hw2 _ _, _, hg2 _ _, r _ (Same.refl _)⟩
theorem lc2_inT {K : PySem.W.Frag} {σ : L2.St} {i1 i2 j : Nat} {H : Hp} {a : Addr} {xs : List V} {ds : List PyData} {R : VK} (hj : σ[j]? = some (some (.ref a))) (ha : H a = some (.tup xs)) (hal : DrAll H xs ds) (hs : ∀ d ∈ ds, Sh1 d) (hz : szL ds ≤ 1000000)
    (hw : ∀ x, wipe ((wipe σ [i1, i2]).set i1 (some x)) [i1, i2] = wipe σ [i1, i2]) (hg : ∀ x : V, ((wipe σ [i1, i2]).set i1 (some x))[i1]? = some (some x))
    (hw2 : ∀ x y, wipe ((wipe ((wipe σ [i1, i2]).set i1 (some x)) [i2]).set i2 (some y)) [i2] = wipe ((wipe σ [i1, i2]).set i1 (some x)) [i2]) (hg2 : ∀ x y : V, ((wipe ((wipe σ [i1, i2]).set i1 (some x)) [i2]).set i2 (some y))[i2]? = some (some y))
    (k : ∀ D H2 vs, Same H H2 → H2 D = some (.lst vs) → DrAll H2 vs (ds.flatMap it1) → R (.ref D) H2) :
    tLc2 (iTup K (tVar j)) (gName i1) tYes (iTup K (tOp rIxTH (tVar i1) (tC (.int 1)))) (gName i2) tYes (tVar i2) [i1, i2] [i2] σ H R := by
  have h0 : 1000000 ≤ sizeLine := by decide
  obtain ⟨outss, e1, e2, e3⟩ := inner_ex hal hs
  have h1 := szL_flat hs
  have h2 := szL_len (ds.flatMap it1)
  have h3 := e2.len
  refine ⟨_, hj, a, rfl, ⟨_, SqT.of ha⟩, fun D nD => lco2 outss (walk_tup ha nD) e1 (by omega) nD (fun t x os H2 K0 lt hx ho s2 _ kk => lc2_turn e3 nD s2 hx ho hw hg hw2 hg2 kk) (fun H2 s2 hD => k D H2 _ s2 hD (e2.mono s2))⟩
theorem lc2_inL {K : PySem.W.Frag} {σ : L2.St} {i1 i2 j : Nat} {H : Hp} {a : Addr} {xs : List V} {ds : List PyData} {R : VK} (hj : σ[j]? = some (some (.ref a))) (ha : H a = some (.lst xs)) (hal : DrAll H xs ds) (hs : ∀ d ∈ ds, Sh1 d) (hz : szL ds ≤ 1000000)
    (hw : ∀ x, wipe ((wipe σ [i1, i2]).set i1 (some x)) [i1, i2] = wipe σ [i1, i2]) (hg : ∀ x : V, ((wipe σ [i1, i2]).set i1 (some x))[i1]? = some (some x))
    (hw2 : ∀ x y, wipe ((wipe ((wipe σ [i1, i2]).set i1 (some x)) [i2]).set i2 (some y)) [i2] = wipe ((wipe σ [i1, i2]).set i1 (some x)) [i2]) (hg2 : ∀ x y : V, ((wipe ((wipe σ [i1, i2]).set i1 (some x)) [i2]).set i2 (some y))[i2]? = some (some y))
    (k : ∀ D H2 vs, Same H H2 → H2 D = some (.lst vs) → DrAll H2 vs (ds.flatMap it1) → R (.ref D) H2) :
    tLc2 (iList K (tVar j)) (gName i1) tYes (iTup K (tOp rIxTH (tVar i1) (tC (.int 1)))) (gName i2) tYes (tVar i2) [i1, i2] [i2] σ H R := by
  have h0 : 1000000 ≤ sizeLine := by decide
  obtain ⟨outss, e1, e2, e3⟩ := inner_ex hal hs
  have h1 := szL_flat hs
  have h2 := szL_len (ds.flatMap it1)
  have h3 := e2.len
  refine ⟨_, hj, a, rfl, ⟨_, SqL.of ha⟩, fun D nD => lco2 outss (walk_lst ha nD) e1 (by omega) nD (fun t x os H2 K0 lt hx ho s2 _ kk => lc2_turn e3 nD s2 hx ho hw hg hw2 hg2 kk) (fun H2 s2 hD => k D H2 _ s2 hD (e2.mono s2))⟩
theorem mem_syms {ms : List PyData} (h : ms.all isMemberD = true) : (ms.flatMap it1).all isNameD = true ∧ (ms.flatMap it1).length ≤ 6 * ms.length := by
  induction ms with
  | nil => exact ⟨rfl, Nat.le_refl _⟩
  | cons m ms ih =>
    rw [List.all_cons, Bool.and_eq_true] at h
    obtain ⟨i1, i2⟩ := ih h.2
    obtain ⟨z, ds, ns, rfl, _, hd, _⟩ := isMember_sh h.1
    unfold areSymsL at hd
    simp only [Bool.and_eq_true] at hd
    rw [List.flatMap_cons, List.all_append, List.length_append, List.length_cons]
    have h6 := of_decide_eq_true hd.1.2
    refine ⟨by rw [i1, Bool.and_true]; exact hd.2.1, ?_⟩
    show ds.length + _ ≤ _
    omega
theorem arc_mems {as : List PyData} (h : as.all isArchiveD = true) : (as.flatMap it1).all isMemberD = true := by
  induction as with
  | nil => rfl
  | cons a as ih =>
    rw [List.all_cons, Bool.and_eq_true] at h
    obtain ⟨z, ms, rfl, _, hm, _⟩ := isArchive_sh h.1
    rw [List.flatMap_cons, List.all_append, ih h.2, Bool.and_true]
    exact hm

end LK
namespace LK
open PySem PySem.Spec PyProof.Rows L2
def KVs (os : List (Str × V)) : List (Key × V) := os.map fun p => ((Sum.inr p.1 : Key), p.2)
theorem putK_new {os : List (Str × V)} {k : Str} {v : V} (h : k ∉ os.map (·.1)) : putK (KVs os) (Sum.inr k) v = KVs (os ++ [(k, v)]) := by
  have e : ((KVs os).any fun kv => decide (kv.1 = (Sum.inr k : Key))) = false := by
    rw [List.any_eq_false]
    intro p hp z
    obtain ⟨q, hq, rfl⟩ := List.mem_map.mp hp
    have z2 : q.1 = k := Sum.inr.inj (of_decide_eq_true z)
    exact h (List.mem_map.mpr ⟨q, hq, z2⟩)
  unfold putK
  rw [e]
  unfold KVs
  rw [List.map_append]
  rfl
theorem valV_KVs {os : List (Str × V)} {k : Str} : valV (KVs os) (Sum.inr k) = os.lookup k := by
  unfold valV KVs
  induction os with
  | nil => rfl
  | cons p os ih =>
    obtain ⟨a, b⟩ := p
    by_cases h : a = k
    · subst h
      simp [List.lookup]
    · have h2 : (k == a) = false := by
        rw [beq_eq_false_iff_ne]
        exact fun z => h z.symm
      rw [List.map_cons, List.find?_cons_of_neg (by simpa using fun z => h z), List.lookup, h2]
      exact ih
theorem flatK {α : Type} {outss : List (List α)} {i : Nat} {os : List α} (h : outss[i]? = some os) : (outss.take (i + 1)).flatten = (outss.take i).flatten ++ os := by
  rw [List.take_add_one, h, List.flatten_append]
  simp
theorem flatK_pre {α : Type} {outss : List (List α)} {i : Nat} {os : List α} (h : outss[i]? = some os) : ∃ r, outss.flatten = (outss.take i).flatten ++ os ++ r := by
  refine ⟨(outss.drop (i + 1)).flatten, ?_⟩
  rw [← flatK h, ← List.flatten_append, List.take_append_drop]
/-- a dict comprehension of two clauses without ifs: the i-th item of the first makes the entries outss[i], no key twice -/
theorem dco2 {J : It} {n : Nat} {It : Nat → V → Hp → Prop} (outss : List (List (Str × V))) {g : TG} {wi1 : TI} {g1 : TG} {tk tv : TE} {vs vs1 : List Nat} {σ : L2.St} {H1 : Hp} {D : Addr} {Qd : Hp → Prop}
    (w : Walk J n It H1 D) (hl : outss.length = n) (hz : outss.flatten.length ≤ sizeLine) (hN : (outss.flatten.map (·.1)).Nodup) (hD : H1 D = none)
    (turn : ∀ (i : Nat) (x : V) (os : List (Str × V)) (H : Hp) (K0 : L2.St → L2.It → Hp → Prop), i < n → It i x H → outss[i]? = some os → Same H1 H → (∃ acc, H D = some (.dK acc)) →
      (∀ σ2 H4 J1 (It1 : Nat → V → Hp → Prop), Same H H4 → Walk J1 os.length It1 H4 D →
        (∀ (j : Nat) (y v : V) (k : Str) (H5 : Hp) (R : V → V → Hp → Prop), j < os.length → It1 j y H5 → os[j]? = some (k, v) → Sab D H4 H5 → (∃ acc, H5 D = some (.dK acc)) → (∀ H6, Same H5 H6 → R (.str k) v H6) → g1 y (wipe σ2 vs1) H5 fun σ3 H6 => wipe σ3 vs1 = wipe σ2 vs1 ∧ tk σ3 H6 fun y H7 => tv σ3 H7 (R y)) → K0 σ2 J1 H4) →
      g x (wipe σ vs) H fun σ2 H2 => wipe σ2 vs = wipe σ vs ∧ wi1 σ2 H2 fun J1 H4 => K0 σ2 J1 H4)
    (k : ∀ H, Same H1 H → H D = some (.dK (KVs outss.flatten)) → Qd H) :
    ∃ W : Nat → Nat → Hp → Prop, (∃ m, W 0 m (upd H1 D (.dK []))) ∧ ∀ i m H, W i m H →
  (J.stop i H ∧ Qd H) ∨ (J.go i H ∧ ∃ Nx : Hp → Prop, (∀ H2, Nx H2 → ∃ k, k < m ∧ W (i + 1) k H2) ∧ ∀ x H2, J.yld i H x H2 → g x (wipe σ vs) H2 fun σ2 H3 => wipe σ2 vs = wipe σ vs ∧ tYes σ2 H3 fun b H4 =>
    if b = true then wi1 σ2 H4 fun J1 H5 => ∃ W1 : Nat → Nat → Hp → Prop, (∃ m, W1 0 m H5) ∧ ∀ j k H, W1 j k H →
      (J1.stop j H ∧ Nx H) ∨ (J1.go j H ∧ ∃ Nx1 : Hp → Prop, (∀ H6, Nx1 H6 → ∃ q, q < k ∧ W1 (j + 1) q H6) ∧ ∀ x H6, J1.yld j H x H6 → g1 x (wipe σ2 vs1) H6 fun σ3 H7 => wipe σ3 vs1 = wipe σ2 vs1 ∧ tYes σ3 H7 fun b H8 =>
        if b = true then tk σ3 H8 fun y H9 => tv σ3 H9 fun z H10 => ∃ kvs k, y = kV k ∧ H10 D = some (.dK kvs) ∧ kvs.length < sizeLine ∧ Nx1 (upd H10 D (.dK (putK kvs k z))) else Nx1 H8)
    else Nx H4) := by
  refine ⟨fun i m H => m = n - i ∧ i ≤ n ∧ Sab D H1 H ∧ H D = some (.dK (KVs (outss.take i).flatten)), ⟨n, rfl, Nat.zero_le _, fun b o hb e => by rw [upd_ne hb]; exact e, upd_same⟩, ?_⟩
  rintro i m H ⟨rfl, hi, sb, hh⟩
  by_cases lt : i < n
  · have lo : i < outss.length := by omega
    refine .inr ⟨w.go i H lt sb, fun H2 => i + 1 ≤ n ∧ Sab D H1 H2 ∧ H2 D = some (.dK (KVs (outss.take (i + 1)).flatten)), fun H2 z => ⟨n - (i + 1), by omega, rfl, z⟩, fun x H2 y => ?_⟩
    obtain ⟨s2, hx⟩ := w.yld i H x H2 sb lt y
    have sb2 : Sab D H1 H2 := sb.trans (sab_of s2)
    have hl2 := s2 _ _ hh
    have ho := List.getElem?_eq_getElem lo
    obtain ⟨rest, hrest⟩ := flatK_pre ho
    refine turn i x _ H2 _ lt hx ho (sb2.same (Same.refl _) hD) ⟨_, hl2⟩ (fun σ2 H4 J1 It1 s4 w1 tn => ?_)
    have sb4 : Sab D H1 H4 := sb2.trans (sab_of s4)
    refine ⟨fun j k H => k = (outss[i]).length - j ∧ j ≤ (outss[i]).length ∧ Sab D H4 H ∧ H D = some (.dK (KVs ((outss.take i).flatten ++ (outss[i]).take j))), ⟨_, rfl, Nat.zero_le _, Sab.refl, by rw [s4 _ _ hl2]; simp⟩, ?_⟩
    rintro j k H5 ⟨rfl, hj, sb5, hh5⟩
    by_cases lj : j < (outss[i]).length
    · refine .inr ⟨w1.go j H5 lj sb5, fun H6 => j + 1 ≤ (outss[i]).length ∧ Sab D H4 H6 ∧ H6 D = some (.dK (KVs ((outss.take i).flatten ++ (outss[i]).take (j + 1)))), fun H6 z => ⟨(outss[i]).length - (j + 1), by omega, rfl, z⟩, fun y H6 yy => ?_⟩
      obtain ⟨s6, hy⟩ := w1.yld j H5 y H6 sb5 lj yy
      have sb6 : Sab D H4 H6 := sb5.trans (sab_of s6)
      have hl6 := s6 _ _ hh5
      have hj1 := List.getElem?_eq_getElem lj
      have e1 : outss.flatten = ((outss.take i).flatten ++ (outss[i]).take j) ++ ((outss[i])[j] :: ((outss[i]).drop (j + 1) ++ rest)) := by
        have e0 : ∀ (A B : List (Str × V)) (x : Str × V) (M r t : List (Str × V)), t = M ++ x :: r → A ++ t ++ B = (A ++ M) ++ (x :: (r ++ B)) := fun A B x M r t e => by
          rw [e]
          simp only [List.append_assoc, List.cons_append]
        exact hrest.trans (e0 _ _ _ _ _ _ (by rw [← List.drop_eq_getElem_cons lj, List.take_append_drop]))
      refine tn j y ((outss[i])[j]).2 ((outss[i])[j]).1 H6 _ lj hy hj1 sb6 ⟨_, hl6⟩ (fun H7 s7 => ?_)
      refine ⟨_, Sum.inr ((outss[i])[j]).1, rfl, s7 _ _ hl6, ?_, lj, (sb6.trans (sab_of s7)).upd, ?_⟩
      · have z1 := congrArg List.length e1
        rw [List.length_append, List.length_cons] at z1
        unfold KVs
        rw [List.length_map]
        omega
      · rw [upd_same, putK_new, List.take_add_one, hj1, List.append_assoc]
        · rfl
        · rw [e1, List.map_append, List.nodup_append] at hN
          intro hm
          exact hN.2.2 _ hm _ (by rw [List.map_cons]; exact List.mem_cons_self) rfl
    · have e : j = (outss[i]).length := by omega
      subst e
      rw [List.take_length] at hh5
      exact .inl ⟨w1.stop H5 sb5, lt, sb4.trans sb5, by rw [hh5, flatK ho]⟩
  · have e : i = n := by omega
    subst e
    rw [List.take_of_length_le (by omega)] at hh
    exact .inl ⟨w.stop H sb, k H (sb.same (Same.refl _) hD) hh⟩
end LK
namespace LK
open PySem PySem.Spec PyProof.Rows L2

/-! ### rows of distinct texts -/
theorem foldl_ins_full (zs : List Str) : ∀ L : List Str, (zs.foldl ins L).length = L.length + zs.length → L.Nodup → (L ++ zs).Nodup := by
  induction zs with
  | nil =>
    intro L _ h
    rw [List.append_nil]
    exact h
  | cons z zs ih =>
    intro L e h
    have h1 := foldl_ins_len zs (ins L z)
    have h2 : (zs.foldl ins (ins L z)).length = L.length + (zs.length + 1) := e
    by_cases hm : z ∈ L
    · have e1 : ins L z = L := if_pos hm
      rw [e1] at h1 h2
      omega
    · have e1 : ins L z = L ++ [z] := if_neg hm
      rw [e1] at h2
      have h3 := ih (L ++ [z]) (by rw [List.length_append, List.length_singleton]; omega) (by rw [← e1]; exact ins_nodup h)
      rw [List.append_assoc] at h3
      exact h3
theorem diffS_nodup {zs : List Str} (h : diffS zs = true) : zs.Nodup := by
  have h1 : (firsts zs).length = zs.length := of_decide_eq_true h
  have h2 := foldl_ins_full zs [] (by rw [List.length_nil, Nat.zero_add]; exact h1) List.nodup_nil
  exact h2
/-! ### the three tables -/
def homesOf (as : List PyData) : List (Str × V) := as.flatMap fun a => (it1 a).map fun m => (nm0 m, V.str (nm0 a))
def srcOf (ms : List PyData) : List (Str × V) := ms.flatMap fun m => (namesD (it1 m)).map fun s => (s, V.str (nm0 m))
section
variable {H : Hp}
theorem pairs_ex : ∀ {vs : List V} {ms : List PyData}, DrAll H vs ms → (∀ d ∈ ms, Sh0 d) → ∃ es : List (Str × V), es.map (·.2) = vs ∧ es.map (·.1) = ms.map nm0 ∧ ∀ e ∈ es, ∃ p ys, e.2 = .ref p ∧ H p = some (.tup ys) ∧ atI ys 0 = some (.str e.1)
  | _, _, .nil, _ => ⟨[], rfl, rfl, fun e he => (nomatch he)⟩
  | _, _, .cons (v := v) (d := d) h t, s => by
    obtain ⟨es, h1, h2, h3⟩ := pairs_ex t fun d hd => s d (List.mem_cons_of_mem _ hd)
    obtain ⟨p, ys, e1, e2, e3⟩ := dr_sh0 h (s _ List.mem_cons_self)
    refine ⟨(nm0 d, v) :: es, by rw [List.map_cons, h1], by rw [List.map_cons, List.map_cons, h2], fun e he => ?_⟩
    rcases List.mem_cons.mp he with z | z
    · subst z
      exact ⟨p, ys, e1, e2, e3⟩
    · exact h3 e z
theorem arcs_ex : ∀ {xs : List V} {as : List PyData}, DrAll H xs as → (∀ d ∈ as, Sh0 d ∧ Sh1 d ∧ ∀ m ∈ it1 d, Sh0 m) → ∃ arcs : List (Str × List (Str × V)), arcs.length = xs.length ∧
    DrAll H ((arcs.map (·.2)).flatten.map (·.2)) (as.flatMap it1) ∧ (arcs.map (·.2)).flatten.map (·.1) = (as.flatMap it1).map nm0 ∧ (arcs.map fun a => a.2.map fun e => (e.1, V.str a.1)).flatten = homesOf as ∧
    ∀ (i : Nat) (x : V), xs[i]? = some x → ∃ p ys q z es, x = .ref p ∧ H p = some (.tup ys) ∧ atI ys 0 = some (.str z) ∧ atI ys 1 = some (.ref q) ∧ arcs[i]? = some (z, es) ∧ H q = some (.tup (es.map (·.2))) ∧ ∀ e ∈ es, ∃ p ys, e.2 = .ref p ∧ H p = some (.tup ys) ∧ atI ys 0 = some (.str e.1)
  | _, _, .nil, _ => ⟨[], rfl, .nil, rfl, rfl, fun i x e => by simp at e⟩
  | _, _, .cons (v := v) (d := d) h t, s => by
    obtain ⟨arcs, h1, h2, h3, h4, h5⟩ := arcs_ex t fun d hd => s d (List.mem_cons_of_mem _ hd)
    obtain ⟨s0, s1, sm⟩ := s _ List.mem_cons_self
    obtain ⟨p, ys, rfl, e1, e2⟩ := dr_sh0 h s0
    obtain ⟨p2, ys2, q, os, e3, e4, e5, e6, e7⟩ := dr_sh1 h s1
    cases e3
    rw [e1] at e4
    cases e4
    obtain ⟨es, f1, f2, f3⟩ := pairs_ex e7 sm
    refine ⟨(nm0 d, es) :: arcs, by rw [List.length_cons, List.length_cons, h1], ?_, ?_, ?_, fun i x e => ?_⟩
    · rw [List.map_cons, List.flatten_cons, List.map_append, List.flatMap_cons, f1]
      exact DrAll.app e7 h2
    · rw [List.map_cons, List.flatten_cons, List.map_append, List.flatMap_cons, List.map_append, h3, f2]
    · rw [List.map_cons, List.flatten_cons, h4]
      show _ = (it1 d).map (fun m => (nm0 m, V.str (nm0 d))) ++ homesOf _
      congr 1
      have z1 : es.map (fun e => (e.1, V.str (nm0 d))) = (es.map (·.1)).map (fun n => (n, V.str (nm0 d))) := by rw [List.map_map]; rfl
      show es.map (fun e => (e.1, V.str (nm0 d))) = _
      rw [z1, f2, List.map_map]
      rfl
    · cases i with
      | zero =>
        cases e
        exact ⟨p, ys, q, _, es, rfl, e1, e2, e5, rfl, by rw [f1]; exact e6, f3⟩
      | succ i => exact h5 i x e
end
/-- the class, as the top has left it -/
structure LibC (K : PySem.W.Frag) (C : Addr) : Prop where
  cl : Cls K C
  n1 : NoAttr K C "archives"
  n2 : NoAttr K C "rows"
  n3 : NoAttr K C "homes"
  n4 : NoAttr K C "sources"
/-- at x a library of the archives as -/
def LibR (C : Addr) (H : Hp) (x : Addr) (as : List PyData) : Prop := ∃ (dx r h s : Addr) (va : V) (es : List (Str × V)),
  H x = some (.ins C dx [("archives", va), ("rows", .ref r), ("homes", .ref h), ("sources", .ref s)]) ∧ Dr H va (.tuple as) ∧ H r = some (.dK (KVs es)) ∧ es.map (·.1) = (as.flatMap it1).map nm0 ∧ DrAll H (es.map (·.2)) (as.flatMap it1) ∧
  H h = some (.dK (KVs (homesOf as))) ∧ H s = some (.dK (KVs (srcOf (as.flatMap it1))))
theorem arc_shapes {as : List PyData} (h : as.all isArchiveD = true) : ∀ d ∈ as, Sh0 d ∧ Sh1 d ∧ ∀ m ∈ it1 d, Sh0 m := fun d hd => by
  obtain ⟨z, ms, rfl, _, hm, _⟩ := isArchive_sh (List.all_eq_true.mp h d hd)
  refine ⟨⟨z, _, rfl⟩, ⟨_, ms, _, rfl⟩, fun m hmm => ?_⟩
  obtain ⟨z, x, y, rfl, _⟩ := isMember_sh (List.all_eq_true.mp hm m hmm)
  exact ⟨z, _, rfl⟩
section
variable {K : PySem.W.Frag} {σ : L2.St} {H : Hp} {a : Addr} {xs : List V} {as : List PyData} {R : VK} {arcs : List (Str × List (Str × V))}
/-- what the walk over the archives knows -/
def ArcW (H : Hp) (xs : List V) (arcs : List (Str × List (Str × V))) : Prop := ∀ (i : Nat) (x : V), xs[i]? = some x → ∃ p ys q z es, x = .ref p ∧ H p = some (.tup ys) ∧ atI ys 0 = some (.str z) ∧ atI ys 1 = some (.ref q) ∧ arcs[i]? = some (z, es) ∧ H q = some (.tup (es.map (·.2))) ∧ ∀ e ∈ es, ∃ p ys, e.2 = .ref p ∧ H p = some (.tup ys) ∧ atI ys 0 = some (.str e.1)
theorem rows_go {x0 va : V} (ea : va = .ref a) (ha : H a = some (.tup xs)) (hl : arcs.length = xs.length) (hw : ArcW H xs arcs) (hz : (arcs.map (·.2)).flatten.length ≤ sizeLine) (hn : ((arcs.map (·.2)).flatten.map (·.1)).Nodup)
    (k : ∀ D H2, Same H H2 → H D = none → H2 D = some (.dK (KVs (arcs.map (·.2)).flatten)) → R (.ref D) H2) :
    tdc2 (iTup K (tVar 1)) (gName 2) tYes (iTup K (tOp rIxTH (tVar 2) (tC (.int 1)))) (gName 3) tYes (tOp rIxTH (tVar 3) (tC (.int 0))) (tVar 3) [2, 3] [3] [some x0, some va, none, none, none, none] H R := by
  subst ea
  refine ⟨_, rfl, a, rfl, ⟨_, SqT.of ha⟩, fun D nD => dco2 (arcs.map (·.2)) (walk_tup ha nD) (by rw [List.length_map, hl]) hz hn nD (fun t x os H2 K0 lt hx ho s2 _ kk => ?_) (fun H2 s2 hD => k D H2 s2 nD hD)⟩
  obtain ⟨p, ys, q, z, es, rfl, e1, e2, e3, e4, e5, e6⟩ := hw t x hx
  rw [List.getElem?_map, e4] at ho
  cases ho
  refine ⟨rfl, _, rfl, p, ys, 1, _, rfl, rfl, s2 _ _ e1, e3, q, rfl, ⟨_, SqT.of (s2 _ _ e5)⟩, ?_⟩
  have w0 := wk_tup (K := K) (s2 _ _ e5) (ne_of_none e5 nD)
  rw [List.length_map] at w0
  refine kk _ _ _ _ (Same.refl _) w0 (fun j y v kx H5 R lt hy hv sb ac r => ?_)
  unfold ItL at hy
  rw [List.getElem?_map, hv] at hy
  cases hy
  obtain ⟨p2, ys2, f1, f2, f3⟩ := e6 _ (List.mem_of_getElem? hv)
  have f1 : v = .ref p2 := f1
  subst f1
  exact ⟨rfl, _, rfl, p2, ys2, 0, _, rfl, rfl, sb _ _ (ne_of_none f2 nD) (s2 _ _ f2), f3, _, rfl, r _ (Same.refl _)⟩
theorem homes_go {x0 va : V} (ea : va = .ref a) (ha : H a = some (.tup xs)) (hl : arcs.length = xs.length) (hw : ArcW H xs arcs) (hz : (arcs.map fun a => a.2.map fun e => (e.1, V.str a.1)).flatten.length ≤ sizeLine) (hn : ((arcs.map fun a => a.2.map fun e => (e.1, V.str a.1)).flatten.map (·.1)).Nodup)
    (k : ∀ D H2, Same H H2 → H D = none → H2 D = some (.dK (KVs (arcs.map fun a => a.2.map fun e => (e.1, V.str a.1)).flatten)) → R (.ref D) H2) :
    tdc2 (iTup K (tVar 1)) (gName 2) tYes (iTup K (tOp rIxTH (tVar 2) (tC (.int 1)))) (gName 3) tYes (tOp rIxTH (tVar 3) (tC (.int 0))) (tOp rIxTH (tVar 2) (tC (.int 0))) [2, 3] [3] [some x0, some va, none, none, none, none] H R := by
  subst ea
  refine ⟨_, rfl, a, rfl, ⟨_, SqT.of ha⟩, fun D nD => dco2 (arcs.map fun a => a.2.map fun e => (e.1, V.str a.1)) (walk_tup ha nD) (by rw [List.length_map, hl]) hz hn nD (fun t x os H2 K0 lt hx ho s2 _ kk => ?_) (fun H2 s2 hD => k D H2 s2 nD hD)⟩
  obtain ⟨p, ys, q, z, es, rfl, e1, e2, e3, e4, e5, e6⟩ := hw t x hx
  rw [List.getElem?_map, e4] at ho
  cases ho
  refine ⟨rfl, _, rfl, p, ys, 1, _, rfl, rfl, s2 _ _ e1, e3, q, rfl, ⟨_, SqT.of (s2 _ _ e5)⟩, ?_⟩
  have w0 := wk_tup (K := K) (s2 _ _ e5) (ne_of_none e5 nD)
  rw [List.length_map] at w0
  refine kk _ _ _ _ (Same.refl _) (by rw [List.length_map]; exact w0) (fun j y v kx H5 R lt hy hv sb ac r => ?_)
  unfold ItL at hy
  rw [List.getElem?_map] at hy hv
  cases he : es[j]? with
  | none =>
    rw [he] at hy
    cases hy
  | some e =>
    rw [he] at hy hv
    cases hy
    cases hv
    obtain ⟨p2, ys2, f1, f2, f3⟩ := e6 _ (List.mem_of_getElem? he)
    refine ⟨rfl, _, rfl, p2, ys2, 0, _, f1, rfl, sb _ _ (ne_of_none f2 nD) (s2 _ _ f2), f3, _, rfl, p, ys, 0, _, rfl, rfl, sb _ _ (ne_of_none e1 nD) (s2 _ _ e1), e2, r _ (Same.refl _)⟩
end
theorem lookup_at {es : List (Str × V)} (h : (es.map (·.1)).Nodup) {i : Nat} {e : Str × V} (he : es[i]? = some e) : es.lookup e.1 = some e.2 := by
  induction es generalizing i with
  | nil => simp at he
  | cons a es ih =>
    rw [List.map_cons, List.nodup_cons] at h
    cases i with
    | zero =>
      cases he
      simp [List.lookup]
    | succ i =>
      have he : es[i]? = some e := he
      have hne : (e.1 == a.1) = false := by
        rw [beq_eq_false_iff_ne]
        intro z
        exact h.1 (z ▸ List.mem_map.mpr ⟨e, List.mem_of_getElem? he, rfl⟩)
      obtain ⟨a1, a2⟩ := a
      rw [List.lookup, hne]
      exact ih h.2 he
section
variable {K : PySem.W.Frag} {H : Hp}
theorem mem_at {vs : List V} {ms : List PyData} {i : Nat} {v : V} (h : DrAll H vs ms) (ok : ms.all isMemberD = true) (hv : vs[i]? = some v) :
    ∃ m p ys q, ms[i]? = some m ∧ v = .ref p ∧ H p = some (.tup ys) ∧ atI ys 1 = some (.ref q) ∧ H q = some (.tup ((namesD (it1 m)).map V.str)) := by
  obtain ⟨m, hm, hd⟩ := h.get hv
  have hk := List.all_eq_true.mp ok m (List.mem_of_getElem? hm)
  obtain ⟨z, ds, ns, e, _, sy, _⟩ := isMember_sh hk
  obtain ⟨p, ys, q, os, e1, e2, e3, e4, e5⟩ := dr_sh1 hd ⟨_, ds, _, e⟩
  have e6 : (it1 m).all isNameD = true := by
    rw [e]
    unfold areSymsL at sy
    simp only [Bool.and_eq_true] at sy
    exact sy.2.1
  rw [namesD_of e6] at e5
  have e7 := e5.strs
  rw [e7] at e4
  exact ⟨m, p, ys, q, hm, e1, e2, e3, e4⟩
theorem walk_keys {r D : Addr} {od : Obj} {es : List (Str × V)} {H1 : Hp} (h : H1 r = some (.frz od (.dK (KVs es)))) (n : r ≠ D) : Walk (Itk r od (KVs es)) es.length (fun i v _ => ∃ e, es[i]? = some e ∧ v = .str e.1) H1 D := by
  have el : (KVs es).length = es.length := by
    unfold KVs
    rw [List.length_map]
  refine ⟨fun i H lt s => ⟨s _ _ n h, by rw [el]; exact lt⟩, fun H s => ⟨s _ _ n h, by rw [el]; exact Nat.le_refl _⟩, fun i H v H2 s lt y => ?_⟩
  obtain ⟨rfl, k, u, e1, rfl⟩ := y
  refine ⟨Same.refl _, ?_⟩
  unfold KVs at e1
  rw [List.getElem?_map] at e1
  cases he : es[i]? with
  | none =>
    rw [he] at e1
    cases e1
  | some e =>
    rw [he] at e1
    cases e1
    exact ⟨e, rfl, rfl⟩
theorem src_go {C x dx r : Addr} {fs : List (Str × V)} {va : V} {es : List (Str × V)} {ms : List PyData} {R : VK} (TL : LibC K C) (hx : H x = some (.ins C dx fs)) (hf : fs.lookup ("rows" : Str) = some (V.ref r)) (hr : H r = some (.dK (KVs es)))
    (he : es.map (·.1) = ms.map nm0) (hd : DrAll H (es.map (·.2)) ms) (ok : ms.all isMemberD = true) (hn : (ms.map nm0).Nodup) (hz : (srcOf ms).length ≤ sizeLine) (hs : ((srcOf ms).map (·.1)).Nodup)
    (k : ∀ D H2, Same H H2 → H D = none → H2 D = some (.dK (KVs (srcOf ms))) → R (.ref D) H2) :
    tLockE (tdc2 (iKeys (tFld K (tVar 0) "rows")) (gName 4) tYes (iTup K (tOp rIxTH (tDGet (tFld K (tVar 0) "rows") (tVar 4)) (tC (.int 1)))) (gName 5) tYes (tVar 5) (tVar 4) [4, 5] [5]) [some (.ref x), some va, none, none, none, none] H R := by
  refine ⟨r, _, hr, trivial, fun od => ?_⟩
  have hxr : x ≠ r := ne_of hx hr (by intro z; cases z)
  have sb1 : ∀ b o, b ≠ r → H b = some o → upd H r (.frz od (.dK (KVs es))) b = some o := fun b o nb e => by
    rw [upd_ne nb]
    exact e
  have ntr : ∀ {b : Addr} {ys : List V}, H b = some (.tup ys) → b ≠ r := fun e => ne_of e hr (by intro z; cases z)
  refine ⟨_, rfl, x, C, dx, fs, _, rfl, sb1 _ _ hxr hx, TL.cl, TL.n2, hf, r, od, rfl, .inl ⟨KVs es, upd_same, fun D nD => ?_⟩⟩
  have e0 : srcOf ms = (ms.map fun m => (namesD (it1 m)).map fun s => (s, V.str (nm0 m))).flatten := List.flatMap_def
  have nDr : r ≠ D := ne_of_none (upd_same (H := H) (a := r) (o := .frz od (.dK (KVs es)))) nD
  have nD0 : H D = none := (none_upd nD).1
  have el : es.length = ms.length := by
    have z := congrArg List.length he
    rw [List.length_map, List.length_map] at z
    exact z
  refine dco2 (ms.map fun m => (namesD (it1 m)).map fun s => (s, V.str (nm0 m))) (walk_keys upd_same nDr) (by rw [List.length_map, el]) (by rw [← e0]; exact hz) (by rw [← e0]; exact hs) nD (fun t y os H2 K0 lt hy ho s2 _ kk => ?_) (fun H2 s2 hD => ?_)
  · obtain ⟨e, h1, rfl⟩ := hy
    obtain ⟨m, p, ys, q, f1, f2, f3, f4, f5⟩ := mem_at (i := t) (v := e.2) hd ok (by rw [List.getElem?_map, h1]; rfl)
    rw [List.getElem?_map, f1] at ho
    cases ho
    have en : e.1 = nm0 m := by
      have z := congrArg (fun l => l[t]?) he
      simp only [List.getElem?_map, h1, f1] at z
      exact Option.some.inj z
    have hxq : H2 x = some (.ins C dx fs) := s2 _ _ (sb1 _ _ hxr hx)
    refine ⟨rfl, _, rfl, x, C, dx, fs, _, rfl, hxq, TL.cl, TL.n2, hf, _, rfl, r, .ref p, rfl, .inl ⟨KVs es, Sum.inr e.1, .inr ⟨od, s2 _ _ upd_same⟩, rfl, ?_⟩, p, ys, 1, _, rfl, rfl, s2 _ _ (sb1 _ _ (ntr f3) f3), f4, q, rfl, ⟨_, SqT.of (s2 _ _ (sb1 _ _ (ntr f5) f5))⟩, ?_⟩
    · rw [valV_KVs, lookup_at (by rw [he]; exact hn) h1, f2]
    · have w0 := wk_tup (K := K) (s2 _ _ (sb1 _ _ (ntr f5) f5)) (ne_of_none f5 nD0)
      rw [List.length_map] at w0
      refine kk _ _ _ _ (Same.refl _) (by rw [List.length_map]; exact w0) (fun j y v kx H5 R lt hy hv sb ac r => ?_)
      unfold ItL at hy
      rw [List.getElem?_map] at hy hv
      cases hj : (namesD (it1 m))[j]? with
      | none =>
        rw [hj] at hy
        cases hy
      | some s =>
        rw [hj] at hy hv
        cases hy
        cases hv
        rw [← en] at r
        exact ⟨rfl, _, rfl, _, rfl, r _ (Same.refl _)⟩
  · refine ⟨s2 _ _ upd_same, k D _ (fun b o e => ?_) nD0 ?_⟩
    · by_cases hb : b = r
      · subst hb
        rw [hr] at e
        cases e
        exact upd_same
      · rw [upd_ne hb]
        exact s2 _ _ (sb1 _ _ hb e)
    · rw [upd_ne (fun z => nDr z.symm), hD, ← e0]
end
/-- what is data stays under a change elsewhere -/
def DataO : HO → Prop
  | .lst _ => True
  | .tup _ => True
  | .dK _ => True
  | _ => False
mutual
theorem Dr.data {H H1 : Hp} (s : ∀ b o, DataO o → H b = some o → H1 b = some o) : ∀ {v : V} {d : PyData}, Dr H v d → Dr H1 v d
  | _, _, .non => .non
  | _, _, .bl b => .bl b
  | _, _, .int i => .int i
  | _, _, .str x => .str x
  | _, _, .lst h k => .lst (s _ _ trivial h) (DrAll.data s k)
  | _, _, .tup h k => .tup (s _ _ trivial h) (DrAll.data s k)
  | _, _, .dct h => .dct (s _ _ trivial h)
theorem DrAll.data {H H1 : Hp} (s : ∀ b o, DataO o → H b = some o → H1 b = some o) : ∀ {vs : List V} {ds : List PyData}, DrAll H vs ds → DrAll H1 vs ds
  | _, _, .nil => .nil
  | _, _, .cons h k => .cons (Dr.data s h) (DrAll.data s k)
end
theorem ArcW.data {H H1 : Hp} {xs : List V} {arcs : List (Str × List (Str × V))} (s : ∀ b o, DataO o → H b = some o → H1 b = some o) (h : ArcW H xs arcs) : ArcW H1 xs arcs := fun i x e => by
  obtain ⟨p, ys, q, z, es, e1, e2, e3, e4, e5, e6, e7⟩ := h i x e
  refine ⟨p, ys, q, z, es, e1, s _ _ trivial e2, e3, e4, e5, s _ _ trivial e6, fun e he => ?_⟩
  obtain ⟨p, ys, f1, f2, f3⟩ := e7 e he
  exact ⟨p, ys, f1, s _ _ trivial f2, f3⟩
theorem data_of_sab {H H1 : Hp} {x C dx : Addr} {fs : List (Str × V)} (hx : H x = some (.ins C dx fs)) (s : Sab x H H1) : ∀ b o, DataO o → H b = some o → H1 b = some o := fun b o d e => s b o (fun z => by
  subst z
  rw [hx] at e
  cases e
  exact d) e
def spLI (C : Addr) : Sp := fun vs H Q _ => ∃ (x dx : Addr) (va : V) (as : List PyData), vs = [.ref x, va] ∧ H x = some (.ins C dx []) ∧ Dr H va (.tuple as) ∧ szL as ≤ 900000 ∧ areArchivesL as = true ∧ ∀ H2, LibR C H2 x as → (∀ b o, b ≠ x → H b = some o → H2 b = some o) → Q .non H2
theorem homes_keys (as : List PyData) : (homesOf as).map (·.1) = (as.flatMap it1).map nm0 := by
  induction as with
  | nil => rfl
  | cons a as ih =>
    show (((it1 a).map fun m => (nm0 m, V.str (nm0 a))) ++ homesOf as).map (·.1) = _
    rw [List.map_append, ih, List.flatMap_cons, List.map_append, List.map_map]
    rfl
theorem src_keys {ms : List PyData} : (srcOf ms).map (·.1) = (ms.map fun m => namesD (it1 m)).flatten := by
  induction ms with
  | nil => rfl
  | cons m ms ih =>
    show (((namesD (it1 m)).map fun s => (s, V.str (nm0 m))) ++ srcOf ms).map (·.1) = _
    rw [List.map_append, ih, List.map_cons, List.flatten_cons, List.map_map]
    congr 1
    show (namesD (it1 m)).map id = _
    rw [List.map_id]
theorem names_app : ∀ (a b : List PyData), namesD (a ++ b) = namesD a ++ namesD b := by
  intro a b
  induction a with
  | nil => rfl
  | cons x a ih => cases x <;> simp [namesD, ih]
theorem names_flat (ms : List PyData) : (ms.map fun m => namesD (it1 m)).flatten = namesD (ms.flatMap it1) := by
  induction ms with
  | nil => rfl
  | cons m ms ih => rw [List.map_cons, List.flatten_cons, ih, List.flatMap_cons, names_app]
/-- what a library's archives keep -/
theorem arch_facts {as : List PyData} (h : areArchivesL as = true) : as.all isArchiveD = true ∧ as.length ≤ 8 ∧ ascS (as.map nm0) = true ∧ (as.flatMap it1).length ≤ 24 ∧ ((as.flatMap it1).map nm0).Nodup ∧ ((srcOf (as.flatMap it1)).map (·.1)).Nodup := by
  unfold areArchivesL at h
  simp only [Bool.and_eq_true] at h
  obtain ⟨h1, h2, h3, h4, h5, h6⟩ := h
  refine ⟨h2, of_decide_eq_true h1, h3, of_decide_eq_true h4, diffS_nodup h5, ?_⟩
  rw [src_keys, names_flat]
  exact diffS_nodup h6
theorem src_len {as : List PyData} (h : areArchivesL as = true) : (srcOf (as.flatMap it1)).length ≤ 144 := by
  obtain ⟨h1, _, _, h4, _, _⟩ := arch_facts h
  have h2 := (mem_syms (arc_mems h1)).2
  have h5 : ∀ ds : List PyData, (namesD ds).length ≤ ds.length := by
    intro ds
    induction ds with
    | nil => exact Nat.le_refl _
    | cons d ds ih => cases d <;> simp [namesD] <;> omega
  have h6 := h5 ((as.flatMap it1).flatMap it1)
  have h7 : (srcOf (as.flatMap it1)).length = (namesD ((as.flatMap it1).flatMap it1)).length := by
    rw [← names_flat, ← src_keys, List.length_map]
  omega

end LK
namespace LK
open PySem PySem.Spec PyProof.Rows L2
theorem ext_tup (p q : Addr) (ys zs : Array Value) (m k : Nat) (dd : Option Addr) (sl : Array (Option Value)) (h0 : ¬(!ys.isEmpty && Builtin.List.listTooLong (ys.size + zs.size)) = true) (h1 : ys.size ≤ sizeLine) (h2 : ys.size + zs.size ≤ sizeLine + 1) :
    Meets (Builtin.«list.extend» ⟨[.ref p, .ref q], []⟩) (fun _ R s => s.heap.get? p = some { cls := .type "list", dict := none, data := .seq ys m, slots := #[] } ∧ s.heap.get? q = some { cls := .type "tuple", dict := dd, data := .seq zs k, slots := sl } ∧
      R (.ok (.ret Value.none)) { s with heap := s.heap.update p (Obj.mapSeq fun x => x ++ zs), toks := s.toks }) :=
  .of_wp fun prog w A R s h => by
    obtain ⟨hp, g, d, tk, os⟩ := s
    obtain ⟨hl, hb, h⟩ := h
    have f1 := PySem.AutoSeq1.idx_int
    have f2 := PySem.AutoSeq1.sub_tuple_tuple
    have f3 := PySem.AutoSeq1.sub_list_list
    have f4 := PySem.AutoSeq1.sub_tuple_list
    have f5 := PySem.AutoSeq1.sub_list_tuple
    have hz : (ys ++ zs).size ≤ sizeLine + 1 := by
      rw [Array.size_append]
      exact h2
    wp_walk using (wpAny_updateSeq hl rfl (hz := h1) (_hz' := hz)), PySem.AutoSeq1.wpAny_loadPart' hl, PySem.AutoSeq1.wpAny_loadPart' hb
    exact ⟨_, rfl, h⟩
section
variable {X : Cx}
/-- xs.extend(t), t a tuple -/
def rExtT : V → List V → Hp → VK → Prop := fun x vs H Q => ∃ (p q : Addr) (ys zs : List V), x = .ref p ∧ vs = [.ref q] ∧ H p = some (.lst ys) ∧ H q = some (.tup zs) ∧ ys.length + zs.length ≤ sizeLine ∧ Q .non (upd H p (.lst (ys ++ zs)))
theorem mt_extT : MtM X "list.extend" rExtT := by
  intro pins s σ H x vs v us Q I rx rv h
  obtain ⟨p, q0, ys, zs, rfl, rfl, hp, hq, hz, q⟩ := h
  cases rx
  obtain ⟨u, rfl, ru⟩ := rv.one
  cases ru
  obtain ⟨z, its, n, r, hl, e⟩ := I.lstM hp
  obtain ⟨its2, r2, ⟨ob, ho, hc, n2, hd⟩, z2⟩ := I.tuple (SqT.of hq)
  have hl2 := r2.length
  obtain ⟨cls, dd, data, sl⟩ := ob
  have hc : cls = .type "tuple" := hc
  have hd : data = .seq its2.toArray n2 := hd
  subst hc
  subst hd
  have hsz : its.toArray.size + its2.toArray.size ≤ sizeLine := by
    rw [List.size_toArray, List.size_toArray]
    omega
  have h0 : ¬(!its.toArray.isEmpty && Builtin.List.listTooLong (its.toArray.size + its2.toArray.size)) = true := by
    rw [notLongL hsz, Bool.and_false]
    exact Bool.false_ne_true
  refine call_meets F.slot_list_extend ⟨_, e, rfl⟩ F.entry_list_extend (F.args_list_extend_2 _ _) (ext_tup p q0 its.toArray its2.toArray n n2 dd sl h0 (by rw [List.size_toArray]; omega) (by omega)) ⟨e, ho, ?_⟩
  refine ⟨.non, _, I.lset (its' := its ++ its2) hp e (by simp) (r.append r2) ?_, rfl, q⟩
  rw [List.length_append]
  omega
/-- y = {e for .. for ..} -/
theorem ps_setSt2 {i : Nat} {y : Str} {yp : Pos} {el tg iter tg1 iter1 : Expr} {ifs ifs1 : List Expr} {scope : Scope} {own : List (Str × Nat)} {vs1 : List Nat} {pos sp : Pos} {wi wi1 : TI} {g g1 : TG} {tt tt1 : TT} {te : TE} (hc : X.calm = true) (hN : X.N.Nodup) (hy : X.N[i]? = some y) (hyl : X.env.scope.names.lookup y = some .local)
    (hw : swapsWith (.SetComp el [⟨tg, iter, ifs, 0⟩, ⟨tg1, iter1, ifs1, 0⟩] scope pos) (some (.Name y yp)) sp.line X.env = pure true) (hi : PI X tg iter wi) (ok : BlkOk X.N X.env.scope scope own) (hv : ∀ i ∈ vs1, i ∈ own.map (·.2))
    (hg : ∀ (s : Shared) (H : Hp) (C : Addr) (cl : List (Str × Addr)) (fp : List Addr), PG (X.blk s H scope (compEnvC scope cl C X.env) fp) tg g)
    (ht : ∀ (s : Shared) (H : Hp) (C : Addr) (cl : List (Str × Addr)) (fp : List Addr), PTs (X.blk s H scope (compEnvC scope cl C X.env) fp) ifs tt)
    (hi1 : ∀ (s : Shared) (H : Hp) (C : Addr) (cl : List (Str × Addr)) (fp : List Addr), PI (X.blk s H scope (compEnvC scope cl C X.env) fp) tg1 iter1 wi1)
    (hg1 : ∀ (s : Shared) (H : Hp) (C : Addr) (cl : List (Str × Addr)) (fp : List Addr), PG (X.blk s H scope (compEnvC scope cl C X.env) fp) tg1 g1)
    (ht1 : ∀ (s : Shared) (H : Hp) (C : Addr) (cl : List (Str × Addr)) (fp : List Addr), PTs (X.blk s H scope (compEnvC scope cl C X.env) fp) ifs1 tt1)
    (he : ∀ (s : Shared) (H : Hp) (C : Addr) (cl : List (Str × Addr)) (fp : List Addr), PE (X.blk s H scope (compEnvC scope cl C X.env) fp) el te) (hs : ∀ x, foldedSetIterable iter X.env x = pure x := by intro _; rfl) (hs1 : ∀ env x, foldedSetIterable iter1 env x = pure x := by intro _ _; rfl) :
    PS X (.Assign [.Name y yp] (.SetComp el [⟨tg, iter, ifs, 0⟩, ⟨tg1, iter1, ifs1, 0⟩] scope pos) sp) (tAsg (tst2 X.w wi g tt wi1 g1 tt1 te (own.map (·.2)) vs1) (gName i)) := by
  refine ⟨fun pins s σ H D I h => ?_⟩
  rw [exec_Assign_Name_used _ _ _ _ hw]
  refine wpAny_bind (wpAny_standAt (wpAny_bind ?_))
  show wpAny _ X.A (do let _ ← comprehension (.SetComp el [⟨tg, iter, ifs, 0⟩, ⟨tg1, iter1, ifs1, 0⟩] scope pos) scope X.env (firstIterPos [⟨tg, iter, ifs, 0⟩, ⟨tg1, iter1, ifs1, 0⟩] pos) (newSet (.type "set")) false (eval iter X.env) (some (assign (.Name y yp) X.env))) _ _ s
  have h0 : tst2 X.w wi g tt wi1 g1 tt1 te (own.map (·.2)) vs1 σ H (fun x H1 => gName i x σ H1 D.nx) := h
  refine wpAny_bind (thn (core_st (Qf := fun _ s1 => SP X pins D .next s1) hc hN I hi ok hv hg ht he hs hi1 hg1 ht1 hs1 h0 fun L C s1 m H1 I1 q hn f => ?_) fun _ s1 hq => wpAny_pure (wpAny_pure hq))
  show wpAny _ _ (assign (.Name y yp) X.env (.ref L)) _ _ _
  refine wpAny_assign_Name (store_ok2 (v := V.ref L) I1 hN hy (.inl hyl) rfl (fun s2 I2 ⟨a, sb, ha⟩ => ?_) (.inr hyl))
  obtain ⟨b0, b1, b2, b3, b4, b5⟩ := f
  have na : C ≠ a := by
    rcases ha with z | z
    · rw [z]
      exact b1
    · exact fun e => b4 y a z e.symm
  refine ⟨m, hn.sameBut sb na, fun h3 sb3 => ?_⟩
  exact ⟨_, H1, I2.turned (t' := s2.toks) (fun b o hb e => (sb3.2 b hb).trans e) b0 b1 b3 b4 b5, q⟩
end
end LK
namespace LK
open PySem PySem.Spec PyProof.Rows L2

/-- a method of the class at C -/
structure LnkM (P : Program) (w : World) (K : PySem.W.Frag) (mg : Str → Option Value) (base : Heap) (C : Addr) (m : Str) (k : Nat) (ps : List Str) (sp : Sp) : Prop where
  ex : ∃ f fd, Meth K C m f ∧ FnOk P w K mg base CX0 k f fd ps sp ∧ Binds K fd ps []
section
variable {X : Cx} {m : Str} {k : Nat} {ps : List Str} {sp : Sp} {pos apos : Pos} {o e : Expr} {es : List Expr} {t : TA} {C : Addr} {ta : TE}
theorem LnkM.up {P : Program} {w : World} {K : PySem.W.Frag} {mg : Str → Option Value} {base : Heap} {j : Nat} (L : LnkM P w K mg base C m j ps sp) (h : j ≤ k) : LnkM P w K mg base C m k ps sp := by
  obtain ⟨f, fd, mt, F, b⟩ := L.ex
  exact ⟨f, fd, mt, F.mono h, b⟩
theorem pe_lnkM {pl : Sem Bool} (c : Cls X.K C) (L : LnkM X.prog X.w X.K X.mg X.base C m k ps sp) (hr : Room k X.A) (ho : PE X o ta) (ha : PA X (e :: es) t)
    (hst : starEach (e :: es) X.env = (false, eval e X.env) :: starEach es X.env := by rfl) (hpl : (backTo pos (starEach es X.env)).any (·.1) = false := by rfl)
    (ht : eval (.Call (.Attribute o m apos) (e :: es) [] pos) X.env = (do
      let ov ← eval o X.env
      standAt apos.atName
      let (f, first) ← holding [ov] (getMethod ov m pl)
      callWith pos f first (backTo pos (starEach (e :: es) X.env)) (backToKw pos (keywordEach [] X.env))) := by rfl) : PE X (.Call (.Attribute o m apos) (e :: es) [] pos) (tMeth C m sp [] (fun _ _ _ => False) ta t) := by
  obtain ⟨f, fd, mt, F, b⟩ := L.ex
  exact pe_meth ho c mt F hr b .nil pass0 ha hst hpl ht
theorem pe_lnkM0 {pl : Sem Bool} (c : Cls X.K C) (L : LnkM X.prog X.w X.K X.mg X.base C m k ps sp) (hr : Room k X.A) (ho : PE X o ta)
    (ht : eval (.Call (.Attribute o m apos) [] [] pos) X.env = (do
      let ov ← eval o X.env
      standAt apos.atName
      let (f, first) ← holding [ov] (getMethod ov m pl)
      callWith pos f first (backTo pos (starEach [] X.env)) (backToKw pos (keywordEach [] X.env))) := by rfl) : PE X (.Call (.Attribute o m apos) [] [] pos) (tMeth C m sp [] (fun _ _ _ => False) ta tNil) := by
  obtain ⟨f, fd, mt, F, b⟩ := L.ex
  exact pe_meth0 ho c mt F hr b .nil pass0 ht
end
def lookV (es : List (Str × V)) : PyData → V
  | .str z => (es.lookup z).getD .non
  | _ => .non
def spLk : Sp := fun vs H Q _ => ∃ (t : Addr) (v : V) (d : PyData) (es : List (Str × V)), vs = [.ref t, v] ∧ H t = some (.dK (KVs es)) ∧ Dr H v d ∧ Q (lookV es d) H
def homesS (as : List PyData) : List (Str × Str) := as.flatMap fun a => (it1 a).map fun m => (nm0 m, nm0 a)
def srcS (ms : List PyData) : List (Str × Str) := ms.flatMap fun m => (namesD (it1 m)).map fun s => (s, nm0 m)
def strV (L : List (Str × Str)) : List (Str × V) := L.map fun p => (p.1, V.str p.2)
theorem homes_str (as : List PyData) : homesOf as = strV (homesS as) := by
  unfold strV homesS homesOf
  rw [List.map_flatMap]
  congr 1
  funext a
  rw [List.map_map]
  rfl
theorem src_str (ms : List PyData) : srcOf ms = strV (srcS ms) := by
  unfold strV srcS srcOf
  rw [List.map_flatMap]
  congr 1
  funext a
  rw [List.map_map]
  rfl
def optD : Option Str → PyData
  | some a => .str a
  | none => .none
def lookD (L : List (Str × Str)) : PyData → PyData
  | .str z => optD (L.lookup z)
  | _ => .none
def memF (ms : List PyData) : PyData → PyData
  | .str z => (ms.find? fun m => decide (nm0 m = z)).getD .none
  | _ => .none
theorem lookup_strV {L : List (Str × Str)} {z : Str} : (strV L).lookup z = (L.lookup z).map V.str := by
  induction L with
  | nil => rfl
  | cons p L ih =>
    obtain ⟨a, b⟩ := p
    show ((a, V.str b) :: strV L).lookup z = _
    rw [List.lookup, List.lookup]
    cases z == a
    · exact ih
    · rfl
section
variable {H : Hp}
theorem dr_look {L : List (Str × Str)} {d : PyData} : Dr H (lookV (strV L) d) (lookD L d) := by
  cases d with
  | str z =>
    show Dr H (((strV L).lookup z).getD .non) (optD (L.lookup z))
    rw [lookup_strV]
    cases L.lookup z with
    | none => exact .non
    | some a => exact .str a
  | _ => exact .non
theorem dr_mem : ∀ {es : List (Str × V)} {ms : List PyData} {d : PyData}, es.map (·.1) = ms.map nm0 → DrAll H (es.map (·.2)) ms → Dr H (lookV es d) (memF ms d)
  | [], [], .str z, _, _ => .non
  | e :: es, m :: ms, .str z, h1, h2 => by
    obtain ⟨a, v⟩ := e
    rw [List.map_cons, List.map_cons, List.cons.injEq] at h1
    have e1 : a = nm0 m := h1.1
    cases h2 with
    | cons h3 h4 =>
      have ih := dr_mem (d := .str z) h1.2 h4
      show Dr H ((((a, v) :: es).lookup z).getD .non) (((m :: ms).find? fun m => decide (nm0 m = z)).getD .none)
      by_cases hz : nm0 m = z
      · rw [List.find?_cons_of_pos (by simpa using hz)]
        rw [List.lookup, show (z == a) = true by rw [e1, hz]; exact beq_self_eq_true z]
        exact h3
      · rw [List.find?_cons_of_neg (by simpa using hz)]
        rw [List.lookup, show (z == a) = false by rw [beq_eq_false_iff_ne, e1]; exact fun q => hz q.symm]
        exact ih
  | _, _, .none, _, _ => .non
  | _, _, .bool _, _, _ => .non
  | _, _, .int _, _, _ => .non
  | _, _, .list _, _, _ => .non
  | _, _, .tuple _, _, _ => .non
  | _, _, .dict _, _, _ => .non
end
/-- a method of one argument that tells data -/
def spM1 (C : Addr) (g : List PyData → PyData → PyData) : Sp := fun vs H Q _ => ∃ (x : Addr) (v : V) (d : PyData) (as : List PyData), vs = [.ref x, v] ∧ LibR C H x as ∧ Dr H v d ∧ ∀ u, Dr H u (g as d) → Q u H
theorem lc_nmG {K : PySem.W.Frag} {σ : L2.St} {H : Hp} {a : Addr} {xs : List V} {ds : List PyData} {i : Nat} {te : TE} {R : VK} (ht : ∀ Q : VK, Q (.ref a) H → te σ H Q) (ha : H a = some (.tup xs)) (hal : DrAll H xs ds) (hs : ∀ d ∈ ds, Sh0 d) (hz : ds.length ≤ sizeLine)
    (hw : ∀ x, wipe ((wipe σ [i]).set i (some x)) [i] = wipe σ [i]) (hg : ∀ x : V, ((wipe σ [i]).set i (some x))[i]? = some (some x)) (k : ∀ D H2, Same H H2 → H2 D = some (.lst ((ds.map nm0).map V.str)) → R (.ref D) H2) :
    tLc (iTup K te) (gName i) tYes (tOp rIxTH (tVar i) (tC (.int 0))) [i] σ H R := by
  have h2 := hal.len
  refine ht _ ⟨a, rfl, ⟨_, SqT.of ha⟩, fun D nD => lco (ds.map fun d => some (V.str (nm0 d))) (walk_tup ha nD) (by rw [List.length_map, h2]) (by omega) nD (fun t x o H2 R R0 lt hx ho s2 r1 r0 => nm_turn hal hs hx ho s2 hw hg r1) (fun H2 s2 hD => ?_)⟩
  rw [keep_some] at hD
  exact k D H2 s2 (by rw [hD, List.map_map]; rfl)
theorem dr_strs {H : Hp} : ∀ (zs : List Str), DrAll H (zs.map V.str) (zs.map PyData.str)
  | [] => .nil
  | z :: zs => .cons (.str z) (dr_strs zs)
/-- a method without arguments that tells data -/
def spM0 (C : Addr) (g : List PyData → PyData) : Sp := fun vs H Q _ => ∃ (x : Addr) (as : List PyData), vs = [.ref x] ∧ LibR C H x as ∧ areArchivesL as = true ∧ ∀ u H2, Same H H2 → Dr H2 u (g as) → Q u H2
def strsD (zs : List Str) : PyData := .tuple (zs.map PyData.str)
theorem le_of_notlt {a b : Str} (h : (!ltCps b.cps.toList a.cps.toList) = true) : leS a b = true := by
  rw [ltCps_eq] at h
  refine decide_eq_true fun z => ?_
  rw [decide_eq_true z] at h
  cases h
theorem risingS_pw : ∀ {ys : List Str} {p : Str}, risingS p ys = true → (p :: ys).Pairwise (fun x y => leS x y = true)
  | [], p, _ => List.pairwise_singleton _ _
  | y :: ys, p, h => by
    have h1 : (!ltCps y.cps.toList p.cps.toList && risingS y ys) = true := h
    rw [Bool.and_eq_true] at h1
    have h2 := risingS_pw h1.2
    have h3 := le_of_notlt h1.1
    refine List.pairwise_cons.mpr ⟨fun z hz => ?_, h2⟩
    rcases List.mem_cons.mp hz with e | e
    · rw [e]
      exact h3
    · exact leS_trans _ _ _ h3 ((List.pairwise_cons.mp h2).1 z e)
theorem sortedS_pw : ∀ {ys : List Str}, sortedS ys = true → ys.Pairwise (fun x y => leS x y = true)
  | [], _ => List.Pairwise.nil
  | _ :: _, h => risingS_pw h

end LK
namespace LK
open PySem PySem.Spec PyProof.Rows L2

def it0 : PyData → List PyData
  | .tuple (.tuple ds :: _) => ds
  | _ => []
def it2 : PyData → List PyData
  | .tuple (_ :: _ :: .tuple ns :: _) => ns
  | _ => []
/-- the needs of the member called n -/
def ned (ms : List PyData) (n : Str) : List Str := namesD (it2 (memF ms (.str n)))
/-- the walk with what waits, the next one first -/
def closGo (src : List (Str × Str)) (nd : Str → List Str) (defs : List Str) : Nat → List Str → List Str → List Str
  | 0, R, _ => R
  | _ + 1, R, [] => R
  | n + 1, R, x :: ws => match src.lookup x with
    | none => closGo src nd defs n R ws
    | some m => if m ∉ R ∧ x ∉ defs then closGo src nd defs n (R ++ [m]) ((nd m).reverse ++ ws) else closGo src nd defs n R ws
def closS (ms : List PyData) (defs needs : List Str) : List Str := closGo (srcS ms) (ned ms) defs 500 [] needs.reverse
def closD (as : List PyData) (d : PyData) : PyData := strsD (sortS (closS (as.flatMap it1) (namesD (it0 d)) (namesD (it1 d))))
def spCl (C : Addr) : Sp := fun vs H Q _ => ∃ (x : Addr) (v : V) (d : PyData) (as : List PyData), vs = [.ref x, v] ∧ LibR C H x as ∧ areArchivesL as = true ∧ Dr H v d ∧ isProgramD d = true ∧ Fit d ∧ ∀ u H2, Same H H2 → Dr H2 u (closD as d) → Q u H2
theorem none_of_same {H H1 : Hp} {p : Addr} (s : Same H H1) (n : H1 p = none) : H p = none := by
  cases e : H p with
  | none => rfl
  | some o =>
    rw [s _ _ e] at n
    cases n
theorem same_updN {H H1 : Hp} {p : Addr} {o : HO} (s : Same H H1) (n : H p = none) : Same H (upd H1 p o) := fun b u e => by
  rw [upd_ne (ne_of_none e n)]
  exact s _ _ e
theorem LibR.mono {C : Addr} {H H1 : Hp} {x : Addr} {as : List PyData} (h : LibR C H x as) (s : Same H H1) : LibR C H1 x as := by
  obtain ⟨dx, r, ho, so, va, es, h1, h2, h3, h4, h5, h6, h7⟩ := h
  exact ⟨dx, r, ho, so, va, es, s _ _ h1, h2.mono s, s _ _ h3, h4, h5.mono s, s _ _ h6, s _ _ h7⟩
theorem isProgram_sh {d : PyData} (h : isProgramD d = true) : ∃ ds ns, d = .tuple [.tuple ds, .tuple ns] ∧ areSymsL ds 0 200 = true ∧ areSymsL ns 0 200 = true := by
  unfold isProgramD at h
  split at h
  · rename_i d1 d2
    rw [Bool.and_eq_true] at h
    obtain ⟨ds, rfl⟩ := areSyms_tup h.1
    obtain ⟨ns, rfl⟩ := areSyms_tup h.2
    exact ⟨ds, ns, rfl, h.1, h.2⟩
  · cases h
theorem syms_facts {ds : List PyData} {lo hi : Int} (h : areSymsL ds lo hi = true) : ds = (namesD ds).map PyData.str ∧ ((namesD ds).length : Int) ≤ hi ∧ ascS (namesD ds) = true ∧ (namesD ds).all isNameS = true := by
  unfold areSymsL at h
  simp only [Bool.and_eq_true] at h
  have e := namesD_of h.2.1
  refine ⟨e, ?_, h.2.2, ?_⟩
  · have h1 := of_decide_eq_true h.1.2
    have h2 := congrArg List.length e
    rw [List.length_map] at h2
    rw [← h2]
    exact h1
  · have h1 := h.2.1
    rw [e, List.all_map] at h1
    exact h1
theorem dr_prog {H : Hp} {v : V} {d : PyData} (h : Dr H v d) (hp : isProgramD d = true) : ∃ a b c, v = .ref a ∧ H a = some (.tup [.ref b, .ref c]) ∧ H b = some (.tup ((namesD (it0 d)).map V.str)) ∧ H c = some (.tup ((namesD (it1 d)).map V.str)) ∧ (namesD (it0 d)).length ≤ 200 ∧ (namesD (it1 d)).length ≤ 200 := by
  obtain ⟨ds, ns, rfl, h1, h2⟩ := isProgram_sh hp
  obtain ⟨e1, l1, _⟩ := syms_facts h1
  obtain ⟨e2, l2, _⟩ := syms_facts h2
  cases h with
  | tup ha hal =>
    cases hal with
    | cons k1 hal =>
      cases hal with
      | cons k2 hal =>
        cases hal
        cases k1 with
        | tup hb hbl =>
          cases k2 with
          | tup hc hcl =>
            rw [e1] at hbl
            rw [e2] at hcl
            have f1 := hbl.strs
            have f2 := hcl.strs
            refine ⟨_, _, _, rfl, ha, by rw [hb, f1]; rfl, by rw [hc, f2]; rfl, ?_, ?_⟩
            · show (namesD ds).length ≤ 200
              omega
            · show (namesD ns).length ≤ 200
              omega
theorem src_mem {ms : List PyData} {z n : Str} (h : (srcS ms).lookup z = some n) : ∃ m ∈ ms, nm0 m = n ∧ z ∈ namesD (it1 m) := by
  have h1 : (z, n) ∈ srcS ms := by
    generalize srcS ms = L at h
    induction L with
    | nil => cases h
    | cons p L ih =>
      obtain ⟨a, b⟩ := p
      rw [List.lookup] at h
      cases e : z == a with
      | true =>
        rw [e] at h
        cases h
        rw [beq_iff_eq] at e
        rw [e]
        exact List.mem_cons_self
      | false =>
        rw [e] at h
        exact List.mem_cons_of_mem _ (ih h)
  unfold srcS at h1
  obtain ⟨m, hm, h2⟩ := List.mem_flatMap.mp h1
  obtain ⟨t, ht, e⟩ := List.mem_map.mp h2
  cases e
  exact ⟨m, hm, rfl, ht⟩
theorem memF_mem {ms : List PyData} {n : Str} (h : n ∈ ms.map nm0) : memF ms (.str n) ∈ ms ∧ nm0 (memF ms (.str n)) = n := by
  obtain ⟨m, hm, e⟩ := List.mem_map.mp h
  show (ms.find? fun m => decide (nm0 m = n)).getD .none ∈ ms ∧ nm0 ((ms.find? fun m => decide (nm0 m = n)).getD .none) = n
  cases hf : ms.find? fun m => decide (nm0 m = n) with
  | none => exact absurd (decide_eq_true e) (by simpa using List.find?_eq_none.mp hf m hm)
  | some m1 => exact ⟨List.mem_of_find?_eq_some hf, of_decide_eq_true (List.find?_some (p := fun m => decide (nm0 m = n)) hf)⟩
theorem dr_needs {H : Hp} {v : V} {m : PyData} (h : Dr H v m) (hm : isMemberD m = true) : ∃ p ys q, v = .ref p ∧ H p = some (.tup ys) ∧ atI ys 2 = some (.ref q) ∧ H q = some (.tup ((namesD (it2 m)).map V.str)) ∧ (namesD (it2 m)).length ≤ 8 := by
  obtain ⟨z, ds, ns, rfl, _, _, h3⟩ := isMember_sh hm
  obtain ⟨e1, l1, _⟩ := syms_facts h3
  cases h with
  | tup ha hal =>
    cases hal with
    | cons k1 hal =>
      cases hal with
      | cons k2 hal =>
        cases hal with
        | cons k3 hal =>
          cases k3 with
          | tup hb hbl =>
            rw [e1] at hbl
            have f1 := hbl.strs
            refine ⟨_, _, _, rfl, ha, atI_nat (j := 2) rfl, by rw [hb, f1]; rfl, ?_⟩
            show (namesD ns).length ≤ 8
            omega
theorem inV_str {z : Str} {zs : List Str} : inV (.str z) (zs.map V.str) = decide (z ∈ zs) := by
  unfold inV
  rw [List.any_map]
  by_cases h : z ∈ zs
  · rw [decide_eq_true h, List.any_eq_true]
    exact ⟨z, h, beq_self_eq_true z⟩
  · rw [decide_eq_false h, List.any_eq_false]
    intro y hy e
    exact h (eq_of_beq (show (y == z) = true from e) ▸ hy)
theorem flat_strs {zs : List Str} : (zs.map V.str).all flatV = true := by
  rw [List.all_map, List.all_eq_true]
  exact fun _ _ => rfl
theorem nodup_le : ∀ {R N : List Str}, R.Nodup → (∀ r ∈ R, r ∈ N) → R.length ≤ N.length
  | [], _, _, _ => Nat.zero_le _
  | r :: R, N, h, hs => by
    obtain ⟨h1, h2⟩ := List.nodup_cons.mp h
    have h3 := nodup_le (N := N.erase r) h2 fun x hx => (List.mem_erase_of_ne (fun (e : x = r) => h1 (e ▸ hx))).mpr (hs x (List.mem_cons_of_mem _ hx))
    have h4 := List.length_erase_of_mem (hs r List.mem_cons_self)
    have h5 : 0 < N.length := List.length_pos_of_mem (hs r List.mem_cons_self)
    rw [List.length_cons]
    omega

end LK
namespace LK
open PySem PySem.Spec PyProof.Rows L2
section
variable {X : Cx}
/-- x == y, x != y of data -/
def rEqR (neg : Bool) : R2 := fun x y H Q => ∃ d e, Dr H x d ∧ Dr H y e ∧ SeqAt.shaped d = true ∧ SeqAt.shaped e = true ∧ Q (.bl (if neg then !PyData.eqv d e else PyData.eqv d e)) H
theorem op_eqR (hu : X.A.units + 64 < cLine) : OpR X (compareOp .Eq) (rEqR false) := by
  intro pins s σ H x y v u Q I rx ry h
  obtain ⟨d, e, hd, he, sd, se, q⟩ := h
  obtain ⟨_, ra, _⟩ := Dr.reads I d x v hd rx
  obtain ⟨_, rb, _⟩ := Dr.reads I e y u he ry
  exact SeqAt.compareEq_shaped ra rb sd se hu ⟨.bl (PyData.eqv d e), H, I, rfl, q⟩
theorem op_neR (hu : X.A.units + 64 < cLine) : OpR X (compareOp .NotEq) (rEqR true) := by
  intro pins s σ H x y v u Q I rx ry h
  obtain ⟨d, e, hd, he, sd, se, q⟩ := h
  obtain ⟨_, ra, _⟩ := Dr.reads I d x v hd rx
  obtain ⟨_, rb, _⟩ := Dr.reads I e y u he ry
  exact SeqAt.compareNe_shaped ra rb sd se hu ⟨.bl (!PyData.eqv d e), H, I, rfl, q⟩
end
theorem sw_set {el : Expr} {gs : List Comprehension} {scope : Scope} {pos yp : Pos} {y : Str} {l : Nat} {env : Env} (hf : env.scope.kind = .function) (hy : env.scope.names.lookup y = some .local) (hl : (yp.line == pos.line) = true)
    (ha : (scope.names.any fun (n, k) => n == y && (k == .local || k == .cell)) = false) : swapsWith (.SetComp el gs scope pos) (some (.Name y yp)) l env = pure true := by
  have ky : env.kindOf y = some .local := hy
  have hb : env.blockKind = .function := by
    unfold Env.blockKind
    rw [hf]
    rfl
  unfold swapsWith
  simp only [hb, ky, ha, Expr.pos, hl]
  rfl
/-! ### data without lists and dicts -/
mutual
def flatD : PyData → Bool
  | .tuple ds => flatA ds
  | .list _ => false
  | .dict _ => false
  | _ => true
def flatA : List PyData → Bool
  | [] => true
  | d :: ds => flatD d && flatA ds
end
mutual
theorem Dr.tups {H H1 : Hp} (s : ∀ b xs, H b = some (.tup xs) → H1 b = some (.tup xs)) : ∀ {v : V} {d : PyData}, flatD d = true → Dr H v d → Dr H1 v d
  | _, _, _, .non => .non
  | _, _, _, .bl b => .bl b
  | _, _, _, .int i => .int i
  | _, _, _, .str x => .str x
  | _, _, f, .tup h k => .tup (s _ _ h) (DrAll.tups s f k)
  | _, _, f, .lst h k => (by cases f)
  | _, _, f, .dct h => (by cases f)
theorem DrAll.tups {H H1 : Hp} (s : ∀ b xs, H b = some (.tup xs) → H1 b = some (.tup xs)) : ∀ {vs : List V} {ds : List PyData}, flatA ds = true → DrAll H vs ds → DrAll H1 vs ds
  | _, _, _, .nil => .nil
  | _, _, f, .cons h k => (by
    have f2 := Bool.and_eq_true_iff.mp f
    exact .cons (Dr.tups s f2.1 h) (DrAll.tups s f2.2 k))
end
theorem DrAll.snoc {H : Hp} : ∀ {vs : List V} {ds : List PyData} {v : V} {d : PyData}, DrAll H vs ds → Dr H v d → DrAll H (vs ++ [v]) (ds ++ [d])
  | _, _, _, _, .nil, h => .cons h .nil
  | _, _, _, _, .cons k t, h => .cons k (DrAll.snoc t h)
theorem flatA_take : ∀ {ds : List PyData} {n : Nat}, flatA ds = true → flatA (ds.take n) = true
  | [], n, _ => by simp [flatA]
  | d :: ds, 0, _ => rfl
  | d :: ds, n + 1, f => by
    have f2 := Bool.and_eq_true_iff.mp f
    show (flatD d && flatA (ds.take n)) = true
    rw [f2.1, flatA_take f2.2]
    rfl
theorem sab_tups {D : Addr} {H H1 : Hp} {acc : List V} (hD : H D = some (.lst acc)) (s : Sab D H H1) : ∀ b xs, H b = some (.tup xs) → H1 b = some (.tup xs) := fun b xs e => s b _ (fun z => by
  rw [z, hD] at e
  cases e) e
/-- a comprehension without an if whose i-th item makes the data outs[i] -/
theorem lcoR {J : It} {n : Nat} {Im : Nat → V → Hp → Prop} (outs : List PyData) {g : TG} {te : TE} {vs : List Nat} {σ : L2.St} {H1 : Hp} {D : Addr} {Qd : Hp → Prop}
    (w : Walk J n Im H1 D) (hl : outs.length = n) (hf : flatA outs = true) (hz : n ≤ sizeLine) (hD : H1 D = none)
    (turn : ∀ (i : Nat) (x : V) (d : PyData) (H : Hp) (R : V → Hp → Prop), i < n → Im i x H → outs[i]? = some d → Same H1 H → (∀ v H2, Same H H2 → Dr H2 v d → R v H2) →
      g x (wipe σ vs) H fun σ2 H2 => wipe σ2 vs = wipe σ vs ∧ te σ2 H2 R)
    (k : ∀ H us, Same H1 H → DrAll H us outs → H D = some (.lst us) → Qd H) :
    ∃ W : Nat → Nat → Hp → Prop, (∃ m, W 0 m (upd H1 D (.lst []))) ∧ ∀ i m H, W i m H → (J.stop i H ∧ Qd H) ∨ (J.go i H ∧ ∃ Nx : Hp → Prop, (∀ H2, Nx H2 → ∃ m2, m2 < m ∧ W (i + 1) m2 H2) ∧ ∀ x H2, J.yld i H x H2 → g x (wipe σ vs) H2 fun σ2 H3 => wipe σ2 vs = wipe σ vs ∧ tYes σ2 H3 fun b H4 =>
      if b = true then te σ2 H4 fun y H5 => ∃ acc, H5 D = some (.lst acc) ∧ acc.length < sizeLine ∧ Nx (upd H5 D (.lst (acc ++ [y]))) else Nx H4) := by
  refine ⟨fun i m H => m = n - i ∧ i ≤ n ∧ Sab D H1 H ∧ ∃ us, H D = some (.lst us) ∧ DrAll H us (outs.take i), ⟨n, rfl, Nat.zero_le _, fun b o hb e => by rw [upd_ne hb]; exact e, [], upd_same, .nil⟩, ?_⟩
  rintro i m H ⟨rfl, hi, sb, us, hh, hus⟩
  by_cases lt : i < n
  · have lo : i < outs.length := by omega
    refine .inr ⟨w.go i H lt sb, fun H2 => i + 1 ≤ n ∧ Sab D H1 H2 ∧ ∃ us, H2 D = some (.lst us) ∧ DrAll H2 us (outs.take (i + 1)), fun H2 z => ⟨n - (i + 1), by omega, rfl, z⟩, fun x H2 y => ?_⟩
    obtain ⟨s2, hx⟩ := w.yld i H x H2 sb lt y
    have sb2 : Sab D H1 H2 := sb.trans (sab_of s2)
    have hl2 := s2 _ _ hh
    have ho := List.getElem?_eq_getElem lo
    refine turn i x _ H2 _ lt hx ho (sb2.same (Same.refl _) hD) (fun v H3 s3 hv => ?_)
    have h3 := s3 _ _ hl2
    have hus3 : DrAll H3 us (outs.take i) := (hus.mono s2).mono s3
    refine ⟨_, h3, ?_, lt, (sb2.trans (sab_of s3)).upd, us ++ [v], upd_same, ?_⟩
    · have z := hus.len
      rw [List.length_take] at z
      omega
    · have st := sab_tups (H1 := upd H3 D (.lst (us ++ [v]))) h3 Sab.refl.upd
      have e1 : outs.take (i + 1) = outs.take i ++ [outs[i]] := by
        rw [List.take_add_one, ho]
        rfl
      have f1 := flatA_take (n := i + 1) hf
      rw [e1] at f1 ⊢
      exact (hus3.snoc hv).tups st f1
  · have e : i = n := by omega
    subst e
    rw [List.take_of_length_le (by omega)] at hus
    exact .inl ⟨w.stop H sb, k H us (sb.same (Same.refl _) hD) hus hh⟩
theorem foldl_firsts (L : List Str) (x : Str) : firsts (L ++ [x]) = ins (firsts L) x := by
  unfold firsts
  rw [List.foldl_append]
  rfl
theorem firsts_le (zs : List Str) : (firsts zs).length ≤ zs.length := firsts_len zs
/-- a set comprehension of two clauses without ifs: the i-th item of the first brings the texts outss[i] -/
theorem sco2 {w0 : World} {J : It} {n : Nat} {Im : Nat → V → Hp → Prop} (outss : List (List Str)) {g : TG} {wi1 : TI} {g1 : TG} {te : TE} {vs vs1 : List Nat} {σ : L2.St} {H1 : Hp} {D : Addr} {Qd : Hp → Prop}
    (w : Walk J n Im H1 D) (hl : outss.length = n) (hz : outss.flatten.length + 1 < scanBound) (hD : H1 D = none)
    (turn : ∀ (i : Nat) (x : V) (os : List Str) (H : Hp) (K0 : L2.St → L2.It → Hp → Prop), i < n → Im i x H → outss[i]? = some os → Same H1 H → 
      (∀ σ2 H4 J1 (It1 : Nat → V → Hp → Prop), Same H H4 → Walk J1 os.length It1 H4 D →
        (∀ (j : Nat) (y : V) (k : Str) (H5 : Hp) (R : V → Hp → Prop), j < os.length → It1 j y H5 → os[j]? = some k → Sab D H4 H5 → (∀ H6, Same H5 H6 → R (.str k) H6) → g1 y (wipe σ2 vs1) H5 fun σ3 H6 => wipe σ3 vs1 = wipe σ2 vs1 ∧ te σ3 H6 R) → K0 σ2 J1 H4) →
      g x (wipe σ vs) H fun σ2 H2 => wipe σ2 vs = wipe σ vs ∧ wi1 σ2 H2 fun J1 H4 => K0 σ2 J1 H4)
    (k : ∀ H, Same H1 H → H D = some (SetT w0 D (firsts outss.flatten)) → Qd H) :
    ∃ W : Nat → Nat → Hp → Prop, (∃ m, W 0 m (upd H1 D (SetT w0 D []))) ∧ ∀ i m H, W i m H →
  (J.stop i H ∧ Qd H) ∨ (J.go i H ∧ ∃ Nx : Hp → Prop, (∀ H2, Nx H2 → ∃ k, k < m ∧ W (i + 1) k H2) ∧ ∀ x H2, J.yld i H x H2 → g x (wipe σ vs) H2 fun σ2 H3 => wipe σ2 vs = wipe σ vs ∧ tYes σ2 H3 fun b H4 =>
    if b = true then wi1 σ2 H4 fun J1 H5 => ∃ W1 : Nat → Nat → Hp → Prop, (∃ m, W1 0 m H5) ∧ ∀ j k H, W1 j k H →
      (J1.stop j H ∧ Nx H) ∨ (J1.go j H ∧ ∃ Nx1 : Hp → Prop, (∀ H6, Nx1 H6 → ∃ q, q < k ∧ W1 (j + 1) q H6) ∧ ∀ x H6, J1.yld j H x H6 → g1 x (wipe σ2 vs1) H6 fun σ3 H7 => wipe σ3 vs1 = wipe σ2 vs1 ∧ tYes σ3 H7 fun b H8 =>
        if b = true then te σ3 H8 fun y H9 => ∃ (k : Str) (L : List Str), y = .str k ∧ H9 D = some (SetT w0 D L) ∧ L.length + 1 < scanBound ∧ Nx1 (upd H9 D (SetT w0 D (ins L k))) else Nx1 H8)
    else Nx H4) := by
  refine ⟨fun i m H => m = n - i ∧ i ≤ n ∧ Sab D H1 H ∧ H D = some (SetT w0 D (firsts (outss.take i).flatten)), ⟨n, rfl, Nat.zero_le _, fun b o hb e => by rw [upd_ne hb]; exact e, upd_same⟩, ?_⟩
  rintro i m H ⟨rfl, hi, sb, hh⟩
  by_cases lt : i < n
  · have lo : i < outss.length := by omega
    refine .inr ⟨w.go i H lt sb, fun H2 => i + 1 ≤ n ∧ Sab D H1 H2 ∧ H2 D = some (SetT w0 D (firsts (outss.take (i + 1)).flatten)), fun H2 z => ⟨n - (i + 1), by omega, rfl, z⟩, fun x H2 y => ?_⟩
    obtain ⟨s2, hx⟩ := w.yld i H x H2 sb lt y
    have sb2 : Sab D H1 H2 := sb.trans (sab_of s2)
    have hl2 := s2 _ _ hh
    have ho := List.getElem?_eq_getElem lo
    obtain ⟨rest, hrest⟩ := flatK_pre ho
    have hrl := congrArg List.length hrest
    rw [List.length_append, List.length_append] at hrl
    refine turn i x _ H2 _ lt hx ho (sb2.same (Same.refl _) hD) (fun σ2 H4 J1 It1 s4 w1 tn => ?_)
    have sb4 : Sab D H1 H4 := sb2.trans (sab_of s4)
    refine ⟨fun j k H => k = (outss[i]).length - j ∧ j ≤ (outss[i]).length ∧ Sab D H4 H ∧ H D = some (SetT w0 D (firsts ((outss.take i).flatten ++ (outss[i]).take j))), ⟨_, rfl, Nat.zero_le _, Sab.refl, by rw [s4 _ _ hl2, List.take_zero, List.append_nil]⟩, ?_⟩
    rintro j k H5 ⟨rfl, hj, sb5, hh5⟩
    by_cases lj : j < (outss[i]).length
    · refine .inr ⟨w1.go j H5 lj sb5, fun H6 => j + 1 ≤ (outss[i]).length ∧ Sab D H4 H6 ∧ H6 D = some (SetT w0 D (firsts ((outss.take i).flatten ++ (outss[i]).take (j + 1)))), fun H6 z => ⟨(outss[i]).length - (j + 1), by omega, rfl, z⟩, fun y H6 yy => ?_⟩
      obtain ⟨s6, hy⟩ := w1.yld j H5 y H6 sb5 lj yy
      have sb6 : Sab D H4 H6 := sb5.trans (sab_of s6)
      have hl6 := s6 _ _ hh5
      have hj1 := List.getElem?_eq_getElem lj
      refine tn j y ((outss[i])[j]) H6 _ lj hy hj1 sb6 (fun H7 s7 => ?_)
      refine ⟨_, _, rfl, s7 _ _ hl6, ?_, lj, (sb6.trans (sab_of s7)).upd, ?_⟩
      · have z1 := firsts_len ((outss.take i).flatten ++ (outss[i]).take j)
        rw [List.length_append, List.length_take] at z1
        omega
      · rw [upd_same, ← foldl_firsts, List.take_add_one, hj1, List.append_assoc]
        rfl
    · have e : j = (outss[i]).length := by omega
      subst e
      rw [List.take_length] at hh5
      exact .inl ⟨w1.stop H5 sb5, lt, sb4.trans sb5, by rw [hh5, flatK ho]⟩
  · have e : i = n := by omega
    subst e
    rw [List.take_of_length_le (by omega)] at hh
    exact .inl ⟨w.stop H sb, k H (sb.same (Same.refl _) hD) hh⟩
end LK
namespace LK
open PySem PySem.Spec PyProof.Rows L2

def memsOf (ms : List PyData) (R : List Str) : List PyData := R.map fun n => memF ms (.str n)
def supL (mem : List PyData) : List Str := firsts (mem.map fun m => namesD (it1 m)).flatten
def nedL (needs : List Str) (mem : List PyData) : List Str := firsts (needs :: mem.map fun m => namesD (it2 m)).flatten
def undL (defs needs : List Str) (mem : List PyData) : List Str := (sortS (nedL needs mem)).filter fun s => !decide (s ∈ defs) && !decide (s ∈ supL mem)
def dupL (defs : List Str) (mem : List PyData) : List Str := defs.filter fun s => decide (s ∈ supL mem)
def obsD (as : List PyData) (d : PyData) : PyData := .tuple [strsD (undL (namesD (it0 d)) (namesD (it1 d)) (memsOf (as.flatMap it1) (sortS (closS (as.flatMap it1) (namesD (it0 d)) (namesD (it1 d)))))), strsD (dupL (namesD (it0 d)) (memsOf (as.flatMap it1) (sortS (closS (as.flatMap it1) (namesD (it0 d)) (namesD (it1 d))))))]
theorem closGo_sub (ms : List PyData) (defs : List Str) : ∀ (n : Nat) (R ws : List Str), R.Nodup → (∀ r ∈ R, r ∈ ms.map nm0) → (closGo (srcS ms) (ned ms) defs n R ws).Nodup ∧ ∀ r ∈ closGo (srcS ms) (ned ms) defs n R ws, r ∈ ms.map nm0
  | 0, R, ws, h1, h2 => ⟨h1, h2⟩
  | n + 1, R, [], h1, h2 => ⟨h1, h2⟩
  | n + 1, R, x :: ws, h1, h2 => by
    unfold closGo
    split
    · exact closGo_sub ms defs n R ws h1 h2
    · rename_i m hm
      split
      · rename_i c
        obtain ⟨mm, hmm, e, _⟩ := src_mem hm
        refine closGo_sub ms defs n _ _ ?_ fun r hr => ?_
        · have z1 := ins_nodup (k := m) h1
          unfold ins at z1
          rw [if_neg c.1] at z1
          exact z1
        · rcases List.mem_append.mp hr with e1 | e1
          · exact h2 r e1
          · rw [List.mem_singleton.mp e1]
            exact List.mem_map.mpr ⟨mm, hmm, e⟩
      · exact closGo_sub ms defs n R ws h1 h2
theorem closS_sub (ms : List PyData) (defs needs : List Str) : (closS ms defs needs).Nodup ∧ ∀ r ∈ closS ms defs needs, r ∈ ms.map nm0 := closGo_sub ms defs 500 [] _ List.nodup_nil fun r h => (nomatch h)
theorem mems_ok {ms : List PyData} {R : List Str} (ok : ms.all isMemberD = true) (h : ∀ r ∈ R, r ∈ ms.map nm0) : (memsOf ms R).all isMemberD = true := by
  rw [List.all_eq_true]
  intro m hm
  obtain ⟨r, hr, rfl⟩ := List.mem_map.mp hm
  exact List.all_eq_true.mp ok _ (memF_mem (h r hr)).1
theorem flat_strsA : ∀ {ds : List PyData}, ds = (namesD ds).map PyData.str → flatA ds = true := by
  intro ds h
  rw [h]
  generalize namesD ds = zs
  induction zs with
  | nil => rfl
  | cons z zs ih => exact ih
theorem flat_members : ∀ {ms : List PyData}, ms.all isMemberD = true → flatA ms = true
  | [], _ => rfl
  | m :: ms, h => by
    rw [List.all_cons, Bool.and_eq_true] at h
    obtain ⟨z, ds, ns, rfl, _, h2, h3⟩ := isMember_sh h.1
    show (flatD _ && flatA ms) = true
    rw [flat_members h.2]
    show (flatA [PyData.str z, .tuple ds, .tuple ns] && true) = true
    show ((true && (flatA ds && (flatA ns && true))) && true) = true
    rw [flat_strsA (syms_facts h2).1, flat_strsA (syms_facts h3).1]
    rfl
section
variable {H : Hp}
/-- the needs' tuples, one for each member -/
theorem needs_ex : ∀ {us : List V} {mem : List PyData}, DrAll H us mem → mem.all isMemberD = true → ∃ qs : List Addr, qs.length = us.length ∧ (∀ (i : Nat) (u : V), us[i]? = some u → ∃ p ys q, u = .ref p ∧ H p = some (.tup ys) ∧ atI ys 2 = some (.ref q) ∧ qs[i]? = some q) ∧
    ∀ (i : Nat) (q : Addr), qs[i]? = some q → ∃ m, mem[i]? = some m ∧ H q = some (.tup ((namesD (it2 m)).map V.str))
  | _, _, .nil, _ => ⟨[], rfl, fun i u e => by simp at e, fun i q e => by simp at e⟩
  | _, _, .cons (v := v) (d := d) h t, ok => by
    rw [List.all_cons, Bool.and_eq_true] at ok
    obtain ⟨qs, h1, h2, h3⟩ := needs_ex t ok.2
    obtain ⟨p, ys, q, rfl, e1, e2, e3, _⟩ := dr_needs h ok.1
    refine ⟨q :: qs, by rw [List.length_cons, List.length_cons, h1], fun i u e => ?_, fun i u e => ?_⟩
    · cases i with
      | zero =>
        cases e
        exact ⟨p, ys, q, rfl, e1, e2, rfl⟩
      | succ i => exact h2 i u e
    · cases i with
      | zero =>
        cases e
        exact ⟨d, rfl, e3⟩
      | succ i => exact h3 i u e
end
theorem keep_filter (zs : List Str) (p : Str → Bool) : (zs.map fun z => if p z = true then some (V.str z) else none).filterMap id = (zs.filter p).map V.str := by
  induction zs with
  | nil => rfl
  | cons z zs ih =>
    rw [List.map_cons, List.filter_cons]
    cases h : p z
    · rw [if_neg (by decide), if_neg (by decide), List.filterMap_cons_none rfl]
      exact ih
    · rw [if_pos rfl, if_pos rfl, List.map_cons, ← ih]
      rfl
theorem flat_len_le {α : Type} {L : List (List α)} {b : Nat} (h : ∀ l ∈ L, l.length ≤ b) : L.flatten.length ≤ b * L.length := by
  induction L with
  | nil => exact Nat.zero_le _
  | cons l L ih =>
    have h1 := h l List.mem_cons_self
    have h2 := ih fun x hx => h x (List.mem_cons_of_mem _ hx)
    rw [List.flatten_cons, List.length_append, List.length_cons, Nat.mul_add]
    omega
theorem ned_len {m : PyData} (h : isMemberD m = true) : (namesD (it2 m)).length ≤ 8 ∧ (namesD (it1 m)).length ≤ 6 := by
  obtain ⟨z, ds, ns, rfl, _, h2, h3⟩ := isMember_sh h
  have l2 := (syms_facts h2).2.1
  have l3 := (syms_facts h3).2.1
  exact ⟨(by show (namesD ns).length ≤ 8; omega), (by show (namesD ds).length ≤ 6; omega)⟩
section
variable {K : PySem.W.Frag} {w : World} {σ : L2.St} {H : Hp} {M : Addr} {us : List V} {mem : List PyData} {R : VK}
/-- {y for x in xs for y in x[1]} -/
theorem sup_go {j i1 i2 : Nat} (hj : σ[j]? = some (some (.ref M))) (hM : H M = some (.lst us)) (hd : DrAll H us mem) (ok : mem.all isMemberD = true) (hz : mem.length ≤ 300)
    (hw : ∀ x, wipe ((wipe σ [i1, i2]).set i1 (some x)) [i1, i2] = wipe σ [i1, i2]) (hg : ∀ x : V, ((wipe σ [i1, i2]).set i1 (some x))[i1]? = some (some x))
    (hw2 : ∀ x y, wipe ((wipe ((wipe σ [i1, i2]).set i1 (some x)) [i2]).set i2 (some y)) [i2] = wipe ((wipe σ [i1, i2]).set i1 (some x)) [i2]) (hg2 : ∀ x y : V, ((wipe ((wipe σ [i1, i2]).set i1 (some x)) [i2]).set i2 (some y))[i2]? = some (some y))
    (k : ∀ D H2, Same H H2 → H2 D = some (SetT w D (supL mem)) → R (.ref D) H2) :
    tst2 w (iList K (tVar j)) (gName i1) tYes (iTup K (tOp rIxTH (tVar i1) (tC (.int 1)))) (gName i2) tYes (tVar i2) [i1, i2] [i2] σ H R := by
  have hB : 2000 < scanBound := by decide
  have hl := flat_len_le (L := mem.map fun m => namesD (it1 m)) (b := 6) fun l hl => by
    obtain ⟨m, hm, rfl⟩ := List.mem_map.mp hl
    exact (ned_len (List.all_eq_true.mp ok m hm)).2
  rw [List.length_map] at hl
  refine ⟨_, hj, M, rfl, ⟨_, SqL.of hM⟩, fun D nD => sco2 (mem.map fun m => namesD (it1 m)) (walk_lst hM nD) (by rw [List.length_map, hd.len]) (by omega) nD (fun t x os H2 K0 lt hx ho s2 kk => ?_) (fun H2 s2 hD => k D H2 s2 hD)⟩
  obtain ⟨m, p, ys, q, f1, rfl, f3, f4, f5⟩ := mem_at hd ok hx
  rw [List.getElem?_map, f1] at ho
  cases ho
  refine ⟨hw _, _, hg _, p, ys, 1, _, rfl, rfl, s2 _ _ f3, f4, q, rfl, ⟨_, SqT.of (s2 _ _ f5)⟩, ?_⟩
  have w0 := wk_tup (K := K) (s2 _ _ f5) (ne_of_none f5 nD)
  rw [List.length_map] at w0
  refine kk _ _ _ _ (Same.refl _) w0 (fun j y z H5 R lt hy hv sb r => ?_)
  unfold ItL at hy
  rw [List.getElem?_map, hv] at hy
  cases hy
  exact ⟨hw2 _ _, _, hg2 _ _, r _ (Same.refl _)⟩
/-- {y for x in xs for y in x}, xs a list of tuples of texts -/
theorem ned_go {te : TE} {i1 i2 : Nat} {xs : List V} {outss : List (List Str)} (ht : ∀ Q : VK, (∀ L H1, Same H H1 → H1 L = some (.lst xs) → Q (.ref L) H1) → te σ H Q) (hl : outss.length = xs.length) (hx : ∀ (i : Nat) (x : V), xs[i]? = some x → ∃ q os, x = .ref q ∧ outss[i]? = some os ∧ H q = some (.tup (os.map V.str))) (hz : outss.flatten.length + 1 < scanBound)
    (hw : ∀ x, wipe ((wipe σ [i1, i2]).set i1 (some x)) [i1, i2] = wipe σ [i1, i2]) (hg : ∀ x : V, (((wipe σ [i1, i2]).set i1 (some x)))[i1]? = some (some x))
    (hw2 : ∀ x y, wipe ((wipe ((wipe σ [i1, i2]).set i1 (some x)) [i2]).set i2 (some y)) [i2] = wipe ((wipe σ [i1, i2]).set i1 (some x)) [i2]) (hg2 : ∀ x y : V, ((wipe ((wipe σ [i1, i2]).set i1 (some x)) [i2]).set i2 (some y))[i2]? = some (some y))
    (k : ∀ D H2, Same H H2 → H2 D = some (SetT w D (firsts outss.flatten)) → R (.ref D) H2) :
    tst2 w (iList K te) (gName i1) tYes (iTup K (tVar i1)) (gName i2) tYes (tVar i2) [i1, i2] [i2] σ H R := by
  refine ht _ fun L H1 s1 hL => ⟨L, rfl, ⟨_, SqL.of hL⟩, fun D nD => sco2 outss (walk_lst hL nD) hl hz nD (fun t x os H2 K0 lt hxx ho s2 kk => ?_) (fun H2 s2 hD => k D H2 (same_tr s1 s2) hD)⟩
  obtain ⟨q, os1, rfl, f1, f2⟩ := hx t x hxx
  have f2 := s1 _ _ f2
  rw [f1] at ho
  cases ho
  refine ⟨hw _, _, hg _, q, rfl, ⟨_, SqT.of (s2 _ _ f2)⟩, ?_⟩
  have w0 := wk_tup (K := K) (s2 _ _ f2) (ne_of_none f2 nD)
  rw [List.length_map] at w0
  refine kk _ _ _ _ (Same.refl _) w0 (fun j y z H5 R lt hy hv sb r => ?_)
  unfold ItL at hy
  rw [List.getElem?_map, hv] at hy
  cases hy
  exact ⟨hw2 _ _, _, hg2 _ _, r _ (Same.refl _)⟩
end
def spOb (C : Addr) : Sp := fun vs H Q _ => ∃ (x : Addr) (v : V) (d : PyData) (as : List PyData), vs = [.ref x, v] ∧ LibR C H x as ∧ areArchivesL as = true ∧ Dr H v d ∧ isProgramD d = true ∧ Fit d ∧ ∀ u H2, Same H H2 → Dr H2 u (obsD as d) → Q u H2
theorem flat_map_str (f : PyData → List Str) (mem : List PyData) : (mem.map fun m => (f m).map V.str).flatten = (mem.flatMap f).map V.str := by
  induction mem with
  | nil => rfl
  | cons m mem ih => rw [List.map_cons, List.flatten_cons, List.flatMap_cons, List.map_append, ih]
/-- needed_symbols: what the program needs, then what its members need -/
def spNs : Sp := fun vs H Q _ => ∃ (v : V) (d : PyData) (M : Addr) (us : List V) (mem : List PyData), vs = [v, .ref M] ∧ Dr H v d ∧ isProgramD d = true ∧ H M = some (.lst us) ∧ DrAll H us mem ∧ mem.all isMemberD = true ∧ mem.length ≤ 300 ∧
  ∀ D H2, Same H H2 → H2 D = some (.lst ((namesD (it1 d) ++ mem.flatMap fun m => namesD (it2 m)).map V.str)) → Q (.ref D) H2
/-- unmet_and_doubled -/
def unD (d : PyData) (mem : List PyData) : PyData := .tuple [strsD (undL (namesD (it0 d)) (namesD (it1 d)) mem), strsD (dupL (namesD (it0 d)) mem)]
def spUn : Sp := fun vs H Q _ => ∃ (v : V) (d : PyData) (M : Addr) (us : List V) (mem : List PyData), vs = [v, .ref M] ∧ Dr H v d ∧ isProgramD d = true ∧ H M = some (.lst us) ∧ DrAll H us mem ∧ mem.all isMemberD = true ∧ mem.length ≤ 300 ∧
  ∀ u H2, Same H H2 → Dr H2 u (unD d mem) → Q u H2
theorem name_ok {z : Str} (h : isNameS z = true) : PyData.strOk z = true := by
  unfold isNameS at h
  simp only [Bool.and_eq_true] at h
  have h1 := h.2.2
  show z.cps.all (fun x => decide (x < 0x110000)) = true
  rw [← Array.all_toList, List.all_eq_true]
  rw [List.all_eq_true] at h1
  intro c hc
  have h2 : c ∈ nameZ.cps.toList := of_decide_eq_true (h1 c hc)
  have h3 : ∀ c ∈ nameZ.cps.toList, c < 0x110000 := by decide +kernel
  exact decide_eq_true (h3 c h2)
theorem mem_foldl_ins {x : Str} : ∀ {zs L : List Str}, x ∈ zs.foldl ins L ↔ x ∈ L ∨ x ∈ zs
  | [], L => by simp
  | z :: zs, L => by
    rw [List.foldl_cons, mem_foldl_ins, ins_mem, List.mem_cons]
    constructor
    · rintro ((h | h) | h)
      · exact .inl h
      · exact .inr (.inl h)
      · exact .inr (.inr h)
    · rintro (h | h | h)
      · exact .inl (.inl h)
      · exact .inl (.inr h)
      · exact .inr h
theorem mem_firsts {x : Str} {zs : List Str} : x ∈ firsts zs ↔ x ∈ zs := by
  unfold firsts
  rw [mem_foldl_ins]
  simp
theorem lay_strs : ∀ {zs : List Str}, zs.all isNameS = true → PyData.canLayAll0 (zs.map PyData.str) = true
  | [], _ => rfl
  | z :: zs, h => by
    rw [List.all_cons, Bool.and_eq_true] at h
    show (PyData.strOk z && PyData.canLayAll0 (zs.map PyData.str)) = true
    rw [name_ok h.1, lay_strs h.2]
    rfl
theorem depth_strs : ∀ (zs : List Str), PyData.depthAll (zs.map PyData.str) = 0
  | [] => rfl
  | z :: zs => by
    show max 0 (PyData.depthAll (zs.map PyData.str)) = 0
    rw [depth_strs zs]
    rfl
theorem shaped_two {a b : List Str} (ha : a.all isNameS = true) (hb : b.all isNameS = true) : SeqAt.shaped (.tuple [strsD a, strsD b]) = true := by
  unfold SeqAt.shaped
  rw [Bool.and_eq_true]
  constructor
  · show (PyData.canLayAll0 (a.map PyData.str) && (PyData.canLayAll0 (b.map PyData.str) && true)) = true
    rw [lay_strs ha, lay_strs hb]
    rfl
  · refine decide_eq_true ?_
    show max (PyData.depthAll (a.map PyData.str) + 1) (max (PyData.depthAll (b.map PyData.str) + 1) 0) + 1 ≤ 64
    rw [depth_strs, depth_strs]
    decide
theorem shaped_strs {a : List Str} (ha : a.all isNameS = true) : SeqAt.shaped (strsD a) = true := by
  unfold SeqAt.shaped
  rw [Bool.and_eq_true]
  refine ⟨lay_strs ha, decide_eq_true ?_⟩
  show PyData.depthAll (a.map PyData.str) + 1 ≤ 64
  rw [depth_strs]
  decide
theorem prog_names {d : PyData} (hp : isProgramD d = true) : (namesD (it0 d)).all isNameS = true ∧ (namesD (it1 d)).all isNameS = true := by
  obtain ⟨ds, ns, rfl, h1, h2⟩ := isProgram_sh hp
  exact ⟨(syms_facts h1).2.2.2, (syms_facts h2).2.2.2⟩
theorem obs_shaped {as : List PyData} {d : PyData} (hok : areArchivesL as = true) (hp : isProgramD d = true) : SeqAt.shaped (obsD as d) = true := by
  obtain ⟨p0, p1⟩ := prog_names hp
  obtain ⟨k1, _⟩ := arch_facts hok
  obtain ⟨c1, c2⟩ := closS_sub (as.flatMap it1) (namesD (it0 d)) (namesD (it1 d))
  have c4 : ∀ r ∈ sortS (closS (as.flatMap it1) (namesD (it0 d)) (namesD (it1 d))), r ∈ (as.flatMap it1).map nm0 := fun r hr => c2 r ((sortS_perm _).mem_iff.mp hr)
  have mn := List.all_eq_true.mp (mems_ok (arc_mems k1) c4)
  refine shaped_two ?_ ?_
  · rw [List.all_eq_true]
    intro z hz
    have h1 := (List.mem_filter.mp hz).1
    have h2 := mem_firsts.mp ((sortS_perm _).mem_iff.mp h1)
    rw [List.flatten_cons, List.mem_append] at h2
    rcases h2 with h2 | h2
    · exact List.all_eq_true.mp p1 z h2
    · obtain ⟨l, hl, h3⟩ := List.mem_flatten.mp h2
      obtain ⟨m, hm, rfl⟩ := List.mem_map.mp hl
      obtain ⟨_, ds, ns, rfl, _, _, h4⟩ := isMember_sh (mn m hm)
      exact List.all_eq_true.mp (syms_facts h4).2.2.2 z h3
  · rw [List.all_eq_true]
    intro z hz
    exact List.all_eq_true.mp p0 z (List.mem_filter.mp hz).1
section
variable {P : Program} {w : World} {K : PySem.W.Frag} {mg : Str → Option Value} {base : Heap}
def spBu (C : Addr) : Sp := fun vs H Q _ => ∃ (x : Addr) (v : V) (d : PyData) (as : List PyData), vs = [.ref x, v] ∧ LibR C H x as ∧ areArchivesL as = true ∧ Dr H v d ∧ isProgramD d = true ∧ Fit d ∧ ∀ H2, Same H H2 → Q (.bl (PyData.eqv (obsD as d) (.tuple [.tuple [], .tuple []]))) H2
end

end LK
namespace LK
open PySem PySem.Spec PyProof.Rows L2
/-- a statement, with what holds behind it said -/
def tMid (t : TS) : TS := fun D σ H => ∃ M : L2.St → Hp → Prop, t { D with nx := M } σ H ∧ ∀ σ2 H2, M σ2 H2 → D.nx σ2 H2
theorem ps_mid {X : Cx} {st : Stmt} {t : TS} (h : PS X st t) : PS X st (tMid t) := ⟨fun pins s σ H D I hw => by
  obtain ⟨M, h1, h2⟩ := hw
  refine wpAny_mono (h.run pins s σ H { D with nx := M } I h1) (fun fl s1 hs => ?_) fun _ _ z => z
  cases fl with
  | next =>
    obtain ⟨σ2, H2, J, z⟩ := hs
    exact ⟨σ2, H2, J, h2 _ _ z⟩
  | ret u => exact hs
  | brk => exact hs
  | cont => exact hs⟩
/-- data sorted as sorted() does it -/
def sortDs (ds : List PyData) : List PyData := ds.mergeSort (PySem.W.dataLe false fun d => d)
section
variable {X : Cx}
/-- tuple(x), len(x) of what is tracked -/
def rTupH : List V → Hp → VK → Prop := fun xs H Q => ∃ (p : Addr) (ys : List V), xs = [.ref p] ∧ ((H p = some (.lst ys) ∧ ∀ l, H l = none → Q (.ref l) (upd H l (.tup ys))) ∨ (H p = some (.tup ys) ∧ Q (.ref p) H))
theorem cr_tupH : CallR X (.type "tuple") rTupH := fun pins s σ H xs us Q I r h => call_tuple_of pins s σ H xs us Q I r (by
  obtain ⟨p, ys, e, z⟩ := h
  rcases z with ⟨z1, z2⟩ | ⟨z1, z2⟩
  · exact ⟨p, ys, e, .inl ⟨SqL.of z1, z2⟩⟩
  · exact ⟨p, ys, e, .inr ⟨SqT.of z1, z2⟩⟩)
def rLenH : List V → Hp → VK → Prop := fun xs H Q => ∃ (p : Addr) (ys : List V), xs = [.ref p] ∧ (H p = some (.lst ys) ∨ H p = some (.tup ys)) ∧ Q (.int ys.length) H
theorem cr_lenH : CallR X (.builtin "len") rLenH := fun pins s σ H xs us Q I r h => call_len_seq pins s σ H xs us Q I r (by
  obtain ⟨p, ys, e, z, q⟩ := h
  exact ⟨p, ys, e, z.elim (fun z => .inl (SqL.of z)) (fun z => .inr (SqT.of z)), q⟩)
def rListH : List V → Hp → VK → Prop := fun xs H Q => ∃ (p : Addr) (ys : List V), xs = [.ref p] ∧ (H p = some (.lst ys) ∨ H p = some (.tup ys)) ∧ ∀ l, H l = none → Q (.ref l) (upd H l (.lst ys))
theorem cr_listH : CallR X (.type "list") rListH := fun pins s σ H xs us Q I r h => call_list_of pins s σ H xs us Q I r (by
  obtain ⟨p, ys, e, z, q⟩ := h
  exact ⟨p, ys, e, z.elim (fun z => .inl (SqL.of z)) (fun z => .inr (SqT.of z)), q⟩)
def rSortDs : List V → Hp → VK → Prop := fun xs H Q => ∃ (a : Addr) (vs : List V) (ds : List PyData), xs = [.ref a] ∧ H a = some (.lst vs) ∧ DrAll H vs ds ∧ PySem.W.AllAlike ds ∧ PySem.W.Sortable ds ∧ (∀ d ∈ ds, d.depth ≤ 40) ∧ ∀ p us, H p = none → DrAll H us (sortDs ds) → Q (.ref p) (upd H p (.lst us))
theorem each_of {pins : List (Addr × Obj)} {σ : L2.St} {H : Hp} {s : Shared} (I : Inv X pins σ H s) : ∀ {vs : List V} {us : List Value} {ds : List PyData}, Vals vs us → DrAll H vs ds → PySem.W.EachIs (fun u (b : V × PyData) => RelV b.1 u ∧ Dr H b.1 b.2) us (vs.zip ds) ∧ PySem.W.EachIs (fun u (b : V × PyData) => ∃ as, Reads s.heap u b.2 as) us (vs.zip ds)
  | _, _, _, .nil, .nil => ⟨.nil, .nil⟩
  | _, _, _, .cons r t, .cons h k => by
    obtain ⟨e1, e2⟩ := each_of I t k
    obtain ⟨as, hr, _⟩ := Dr.reads I _ _ _ h r
    exact ⟨.cons ⟨r, h⟩ e1, .cons ⟨as, hr⟩ e2⟩
theorem each_back {H : Hp} : ∀ {us : List Value} {bs : List (V × PyData)}, PySem.W.EachIs (fun u (b : V × PyData) => RelV b.1 u ∧ Dr H b.1 b.2) us bs → Vals (bs.map (·.1)) us ∧ DrAll H (bs.map (·.1)) (bs.map (·.2))
  | _, _, .nil => ⟨.nil, .nil⟩
  | _, _, .cons h t => by
    obtain ⟨e1, e2⟩ := each_back t
    exact ⟨.cons h.1 e1, .cons h.2 e2⟩
theorem cr_sortDs (hu : X.A.units + 64 < cLine) : CallR X (.builtin "sorted") rSortDs := by
  intro pins s σ H xs us Q I r h
  obtain ⟨a, vs, ds, rfl, ha, hd, hal, hk, hdp, q⟩ := h
  rw [Vals.ref1 r]
  obtain ⟨its, rv, hl, hz⟩ := I.list (SqL.of ha)
  obtain ⟨e1, e2⟩ := each_of I rv hd
  have ez : (vs.zip ds).map (fun b => b.2) = ds := List.map_snd_zip (Nat.le_of_eq hd.len.symm)
  have ef : (vs.zip ds).map (fun b => b.1) = vs := List.map_fst_zip (Nat.le_of_eq hd.len)
  have el : (vs.zip ds).length = vs.length := by rw [← List.length_map (fun b : V × PyData => b.1), ef]
  refine PySem.W.sorted_data (enc := fun b : V × PyData => b.2) hl.isList e1 e2 (by rw [ez]; exact hal) (by rw [ez]; exact hk) (by omega) (fun b hb => ?_) fun out ol eo => ?_
  · have h1 : b.2 ∈ ds := by
      rw [← ez]
      exact List.mem_map.mpr ⟨b, hb, rfl⟩
    have h2 := hdp b.2 h1
    omega
  · obtain ⟨f1, f2⟩ := each_back eo
    obtain ⟨ep, he⟩ := PyProof.Rows.sortedAll_at s.heap its out.toArray
    have es : ((vs.zip ds).mergeSort (PySem.W.dataLe false fun b : V × PyData => b.2)).map (fun b => b.2) = sortDs ds := by
      unfold sortDs
      conv => rhs; rw [← ez]
      exact PySem.W.sort_maps _ fun a _ b _ => rfl
    rw [es] at f2
    have fl := f2.len
    have hlen : (((vs.zip ds).mergeSort (PySem.W.dataLe false fun b : V × PyData => b.2)).map (fun b => b.1)).length ≤ sizeLine := by
      rw [List.length_map, (List.mergeSort_perm _ _).length_eq]
      omega
    exact ⟨.ref _, upd H (s.heap.objs.size + 1) (.lst _), I.laid (t' := s.toks) (fun _ _ => PyProof.Rows.sortedAll_old) (Nat.le_succ _) ⟨hlen, out, ep, f1, he⟩, rfl, q _ _ (I.hok.fresh (Nat.le_succ _)) f2⟩
end
theorem sortDs_perm (ds : List PyData) : (sortDs ds).Perm ds := List.mergeSort_perm _ _
theorem sortDs_pw (ds : List PyData) : (sortDs ds).Pairwise fun x y => PySem.W.dataLe false (fun d => d) x y = true := PySem.W.sort_pairwise (PySem.W.sortLe_total _ _ _) ds
end LK
namespace LK
open PySem PySem.Spec PyProof.Rows L2

abbrev sWell : Stmt := topS 22
theorem scWell : FnScope ["_law_script", "_law_k", "_law_cell", "_law_own"] ["_law_script", "_law_k"] (defScope sWell) := ⟨rfl, rfl, rfl, by decide +kernel, rfl, by decide +kernel, by decide +kernel⟩
abbrev sDraw : Stmt := topS 23
theorem scDraw : FnScope ["_law_well_here", "_law_below", "_law_digit", "_law_blend"] ["_law_well_here", "_law_below"] (defScope sDraw) := ⟨rfl, rfl, rfl, by decide +kernel, rfl, by decide +kernel, by decide +kernel⟩
section
variable {P : Program} {w : World} {K : PySem.W.Frag} {mg : Str → Option Value} {base : Heap}
def spWell (K : PySem.W.Frag) : Sp := fun vs H Q _ => ∃ (a : Addr) (ns : List Int) (k : Int), vs = [.ref a, .int k] ∧ SqL K H a (ns.map V.int) ∧ 0 ≤ k ∧ k ≤ 1000 ∧
  ∀ (p : Addr) (o b : Int), H p = none → 0 ≤ o → 0 ≤ b → b < 2 ^ 62 → Q (.ref p) (upd H p (.lst [.int o, .int b, .int 0]))
theorem ok_well {f : Addr} {fd : FuncData} {k : Nat} (F : Fun K "_law_well" "_law_well" sWell f fd) (ml : mg "len" = none) (ma : mg "abs" = none) (mi : mg "int" = none) : FnOk P w K mg base CX0 (k + 1) f fd ["_law_script", "_law_k"] (spWell K) := by
  refine F.ok scWell (fun vs H Q E h => ?_) (fun cdv A outer s H vs Q E hr h => ?_)
  · obtain ⟨a, ns, k, rfl, _⟩ := h
    rfl
  · obtain ⟨a, ns, k, rfl, hS, hk0, hk1, q⟩ := h
    refine ⟨_, pss_cons (ps_set (i := 2) scWell.nd rfl (.inl rfl) (pe_op op_add (pe_op op_mul pe_int (pv 1)) pe_int))
      (pss_cons (ps_if (pt_cmpR op_lt (pv 1) (pe_callB call_len_seq (by rfl) ml PySem.boot_len (pa_cons (pv 0) pa_nil)) (nomark _)) (pss_one (ps_set (i := 2) scWell.nd rfl (.inl rfl) (pe_ix ix_list (pv 0) (pv 1) (fun _ _ => rfl)))) pss_nil)
      (pss_cons (ps_set (i := 3) scWell.nd rfl (.inl rfl) (pe_op op_mul (pe_op op_mod (pe_callB call_abs (by rfl) ma (by decide +kernel) (pa_cons (pv 2) pa_nil)) (pe_op op_powW (pe_op op_pow pe_int pe_int) pe_int))
          (pe_callTy call_int1 (by rfl) mi (by decide +kernel) (pa_cons (pe_cmpR op_ge (pe_callB call_abs (by rfl) ma (by decide +kernel) (pa_cons (pv 2) pa_nil)) (pe_op op_pow pe_int pe_int) (nomark _)) pa_nil))))
      (pss_one (ps_ret (pe_lst (pa_cons (pv 3) (pa_cons (pe_op op_mod (pe_op op_add (pe_op op_add (pe_op op_mul (pe_op op_mod (pv 2) pe_int) pe_int) (pe_op op_mul (pe_op op_mul pe_int (pv 1)) (pv 1))) pe_int) pe_int) (pa_cons pe_int pa_nil)))))))), ?_⟩
    rw [show L2.start ["_law_script", "_law_k", "_law_cell", "_law_own"] [V.ref a, V.int k] = [some (V.ref a), some (V.int k), none, none] from rfl]
    have h1 : CPow 10 60 := by unfold CPow; decide
    have h2 : CPow 10 18 := by unfold CPow; decide
    have h3 : CPowW (10 ^ Int.toNat 60) 5 := by unfold CPowW; decide +kernel
    have h4 : (0 : Int) < (10 ^ Int.toNat 60) ^ Int.toNat 5 := by decide +kernel
    have h5 : ∀ x : Int, CMul x 75311 := fun x => .inr (by decide)
    have h6 : ∀ x : Int, CMul 11 x := fun x => .inl (by decide)
    have h7 : ∀ x : Int, CMul 6101 x := fun x => .inl (by decide)
    have h8 : CMul (6101 * k) k := .inr (by constructor <;> omega)
    have h9 : ∀ (x : Int) (c : Bool), CMul x (if c = true then 1 else 0) := fun x c => .inr (by cases c <;> decide)
    have h10 : 3 ≤ sizeLine := by decide
    simp only [rIxL, tSeq, tAsg, gName, tOp, tUn, tVar, tC, rI, rI0, tIfS, tTest, tCB, tCons, tNil, tRet, tRetN, tNext, tDrop, tLst, tTup, cxOf, rIxL, gSub, rSetL, tAnd, tOr, tNot, tB, tIf, tCall, gTup, gCons, gNil, tPar, tAug, tAndV, tOrV, tNotV, Option.some.injEq, V.int.injEq, V.ref.injEq, V.bl.injEq, V.str.injEq, List.cons.injEq, and_true, true_and, exists_eq_left', exists_eq_left, exists_and_left, exists_eq_right, exists_eq_right', List.set_cons_succ, List.set_cons_zero, List.getElem?_cons_zero, List.getElem?_cons_succ, List.cons_append, List.nil_append, List.append_nil, reduceCtorEq, false_and, and_false, exists_false, false_or, or_false, Int.reduceLT, Int.reduceLE, List.length_cons, List.length_nil, Nat.reduceAdd, implies_true, exists_const, h1, h2, h3, h4, h5, h6, h7, h8, h9, h10]
    refine ⟨_, .inl hS, ?_⟩
    have fin : ∀ c : Int, ∀ p : Addr, H p = none → Q (V.ref p) (upd H p (HO.lst [V.int ((if c < 0 then -c else c) % (10 ^ Int.toNat 60) ^ Int.toNat 5 * if decide (10 ^ Int.toNat 18 ≤ if c < 0 then -c else c) = true then 1 else 0), V.int ((c % 2305843009213693951 * 75311 + 6101 * k * k + 59) % 2305843009213693907), V.int 0])) := fun c p hp => by
      refine q p _ _ hp ?_ (Int.emod_nonneg _ (by decide)) (Int.lt_trans (Int.emod_lt_of_pos _ (by decide)) (by decide))
      refine Int.mul_nonneg (Int.emod_nonneg _ (Int.ne_of_gt h4)) ?_
      cases decide (10 ^ Int.toNat 18 ≤ if c < 0 then -c else c) <;> decide
    refine ite2 (fun e => ?_) (fun _ => fin _)
    have hk : k < ((ns.map V.int).length : Int) := of_decide_eq_true e
    rw [List.length_map] at hk
    have hkn : k.toNat < ns.length := by omega
    refine ⟨_, hS, .int (ns[k.toNat]'hkn), ?_, _, rfl, _, rfl, _, rfl, fin _⟩
    refine (congrArg (atI (ns.map V.int)) (show k = ((k.toNat : Nat) : Int) by omega)).trans (atI_nat ?_)
    rw [List.getElem?_map, List.getElem?_eq_getElem hkn]
    rfl
/-- a well at a: three numbers, the last one at most N -/
def WellAt (H : Hp) (a : Addr) (N : Nat) : Prop := ∃ o b n : Int, H a = some (.lst [.int o, .int b, .int n]) ∧ 0 ≤ o ∧ 0 ≤ b ∧ b < 2 ^ 62 ∧ 0 ≤ n ∧ n ≤ N
def spDraw : Sp := fun vs H Q _ => ∃ (a : Addr) (b : Int) (N : Nat), vs = [.ref a, .int b] ∧ WellAt H a N ∧ 0 < b ∧ b < 2 ^ 30 ∧ N ≤ 2 ^ 40 ∧
  ∀ (d o s n : Int), 0 ≤ d → d < b → 0 ≤ o → 0 ≤ s → s < 2 ^ 62 → 0 ≤ n → n ≤ (N + 1 : Nat) → Q (.int d) (upd H a (.lst [.int o, .int s, .int n]))
theorem ok_draw {f : Addr} {fd : FuncData} {k : Nat} (F : Fun K "_law_draw" "_law_draw" sDraw f fd) : FnOk P w K mg base CX0 (k + 1) f fd ["_law_well_here", "_law_below"] spDraw := by
  refine F.ok scDraw (fun vs H Q E h => ?_) (fun cdv A outer s H vs Q E hr h => ?_)
  · obtain ⟨a, b, N, rfl, _⟩ := h
    rfl
  · obtain ⟨a, b, N, rfl, ⟨o, c, n, hW, ho, hc0, hc1, hn0, hn1⟩, hb0, hb1, hN, q⟩ := h
    refine ⟨_, pss_cons (ps_if (pt_cmpR op_gt (pe_ix ix_listH (pv 0) pe_int (fun _ _ => rfl)) pe_int (nomark _))
        (pss_cons (ps_set (i := 2) scDraw.nd rfl (.inl rfl) (pe_op op_mod (pe_ix ix_listH (pv 0) pe_int (fun _ _ => rfl)) (pv 1)))
        (pss_cons (ps_asg (pe_op op_fdiv (pe_ix ix_listH (pv 0) pe_int (fun _ _ => rfl)) (pv 1)) (pg_sub (pv 0) pe_int set_list))
        (pss_one (ps_ret (pv 2))))) pss_nil)
      (pss_cons (ps_asg (pe_op op_add (pe_ix ix_listH (pv 0) pe_int (fun _ _ => rfl)) pe_int) (pg_sub (pv 0) pe_int set_list))
      (pss_cons (ps_set (i := 3) scDraw.nd rfl (.inl rfl) (pe_op op_mod (pe_op op_mul (pe_op op_add (pe_op op_add (pe_ix ix_listH (pv 0) pe_int (fun _ _ => rfl)) (pe_op op_mul (pe_op op_mul pe_int (pe_ix ix_listH (pv 0) pe_int (fun _ _ => rfl))) (pe_ix ix_listH (pv 0) pe_int (fun _ _ => rfl)))) pe_int) pe_int) pe_int))
      (pss_cons (ps_set (i := 3) scDraw.nd rfl (.inl rfl) (pe_op op_mod (pe_op op_mul (pv 3) (pe_op op_add (pe_op op_add (pe_op op_mod (pv 3) pe_int) (pe_op op_mul pe_int (pe_ix ix_listH (pv 0) pe_int (fun _ _ => rfl)))) pe_int)) pe_int))
      (pss_one (ps_ret (pe_op op_mod (pe_op op_add (pe_op op_fdiv (pv 3) pe_int) (pe_op op_fdiv (pv 3) pe_int)) (pv 1))))))), ?_⟩
    rw [show L2.start ["_law_well_here", "_law_below", "_law_digit", "_law_blend"] [V.ref a, V.int b] = [some (V.ref a), some (V.int b), none, none] from rfl]
    have g1 : ∀ (x y z : V), atI [x, y, z] 0 = some x := fun _ _ _ => rfl
    have g2 : ∀ (x y z : V), atI [x, y, z] 1 = some y := fun _ _ _ => rfl
    have g3 : ∀ (x y z : V), atI [x, y, z] 2 = some z := fun _ _ _ => rfl
    have g4 : ixN 3 0 = some 0 := rfl
    have g5 : ixN 3 2 = some 2 := rfl
    have h1 : ∀ x : Int, CMul 40009 x := fun x => .inl (by decide)
    have h2 : ∀ x : Int, CMul x 75329 := fun x => .inr (by decide)
    have h3 : ∀ x : Int, CMul x (n + 1) := fun x => .inr (by constructor <;> omega)
    have h4 : ∀ x y : Int, CMul (x % 2305843009213693921) y := fun x y => .inl ⟨Int.lt_of_lt_of_le (by decide) (Int.emod_nonneg _ (by decide)), Int.lt_trans (Int.emod_lt_of_pos _ (by decide)) (by decide)⟩
    have h5 : ∀ x : Int, CMul 70001 x := fun x => .inl (by decide)
    have h6 : ∀ x : Int, CDiv x b := fun x => ⟨hb0, hb1⟩
    have h7 : ∀ x : Int, CDiv x 101 := fun x => ⟨by decide, by decide⟩
    have h8 : ∀ x : Int, CDiv x 999983 := fun x => ⟨by decide, by decide⟩
    simp only [tSeq, tAsg, gName, tOp, tUn, tVar, tC, rI, rI0, tIfS, tTest, tCB, tCons, tNil, tRet, tRetN, tNext, tDrop, tLst, tTup, cxOf, rIxLH, rIxTH, gSub, rSetL, tAnd, tOr, tNot, tB, tIf, tCall, gTup, gCons, gNil, tPar, tAug, tAndV, tOrV, tNotV, upd_same, upd_upd, HO.lst.injEq, HO.tup.injEq, Option.some.injEq, V.int.injEq, V.ref.injEq, V.bl.injEq, V.str.injEq, List.cons.injEq, and_true, true_and, exists_eq_left', exists_eq_left, exists_and_left, exists_eq_right, exists_eq_right', List.set_cons_succ, List.set_cons_zero, List.getElem?_cons_zero, List.getElem?_cons_succ, List.cons_append, List.nil_append, List.append_nil, reduceCtorEq, false_and, and_false, exists_false, false_or, or_false, Int.reduceLT, Int.reduceLE, List.length_cons, List.length_nil, Nat.reduceAdd, implies_true, exists_const, hW, g1, g2, g3, g4, g5, h1, h2, h3, h4, h5, h6, h7, h8, hb0]

    refine ite2 (fun _ => ?_) (fun _ => ?_)
    · exact q _ _ _ _ (Int.emod_nonneg _ (by omega)) (Int.emod_lt_of_pos _ hb0) (Int.ediv_nonneg ho (by omega)) hc0 hc1 hn0 (by omega)
    · exact q _ _ _ _ (Int.emod_nonneg _ (by omega)) (Int.emod_lt_of_pos _ hb0) ho hc0 hc1 (by omega) (by omega)
end

structure Bl (mg : Str → Option Value) : Prop extends Bi mg where
  range : mg "range" = none
  dict : mg "dict" = none
  int : mg "int" = none
  repr : mg "repr" = none
  any : mg "any" = none
  enumerate : mg "enumerate" = none
  max : mg "max" = none
  min : mg "min" = none
  abs : mg "abs" = none
/-- a draw, told by what it leaves -/
def spDrw : Sp := fun vs H Q _ => ∃ (a : Addr) (b : Int) (N : Nat), vs = [.ref a, .int b] ∧ WellAt H a N ∧ 0 < b ∧ b < 2 ^ 30 ∧ N ≤ 2 ^ 40 ∧ ∀ (d : Nat) (H2 : Hp), (d : Int) < b → Sab a H H2 → WellAt H2 a (N + 1) → Q (.int (d : Nat)) H2
theorem drw_of (vs : List V) (H : Hp) (Q : VK) (E : XK) (h : spDrw vs H Q E) : spDraw vs H Q E := by
  obtain ⟨a, b, N, rfl, hw, h1, h2, h3, q⟩ := h
  refine ⟨a, b, N, rfl, hw, h1, h2, h3, fun d o s n d0 d1 o0 s0 s1 n0 n1 => ?_⟩
  have e : d = ((d.toNat : Nat) : Int) := by omega
  rw [e]
  exact q d.toNat _ (by omega) Sab.refl.upd ⟨o, s, n, upd_same, o0, s0, s1, n0, n1⟩
theorem WellAt.le {H : Hp} {a : Addr} {N M : Nat} (h : WellAt H a N) (l : N ≤ M) : WellAt H a M := by
  obtain ⟨o, b, n, h1, h2, h3, h4, h5, h6⟩ := h
  exact ⟨o, b, n, h1, h2, h3, h4, h5, by omega⟩
theorem WellAt.mono {H H1 : Hp} {a : Addr} {N : Nat} (h : WellAt H a N) (s : Same H H1) : WellAt H1 a N := by
  obtain ⟨o, b, n, h1, h2⟩ := h
  exact ⟨o, b, n, s _ _ h1, h2⟩
theorem WellAt.some {H : Hp} {a : Addr} {N : Nat} (h : WellAt H a N) : ∃ xs, H a = some (.lst xs) := by
  obtain ⟨o, b, n, h1, h2⟩ := h
  exact ⟨_, h1⟩
abbrev sPick : Stmt := topS 24
theorem scPick : FnScope ["_law_well_here", "_law_some"] ["_law_well_here", "_law_some"] (defScope sPick) := ⟨rfl, rfl, rfl, by decide +kernel, rfl, by decide +kernel, by decide +kernel⟩
/-- an item of a list, drawn -/
def spPick : Sp := fun vs H Q _ => ∃ (a p : Addr) (N : Nat) (xs : List V), vs = [.ref a, .ref p] ∧ WellAt H a N ∧ N ≤ 2 ^ 40 ∧ p ≠ a ∧ H p = some (.lst xs) ∧ xs ≠ [] ∧ xs.length < 2 ^ 30 ∧ ∀ (i : Nat) (v : V) (H2 : Hp), xs[i]? = some v → Sab a H H2 → WellAt H2 a (N + 1) → Q v H2
section
variable {P : Program} {w : World} {K : PySem.W.Frag} {mg : Str → Option Value} {base : Heap}
theorem ok_Pick {f : Addr} {fd : FuncData} {k : Nat} (F : Fun K "_law_pick" "_law_pick" sPick f fd) (T : Bl mg) (LDraw : Lnk P w K mg base "_law_draw" k ["_law_well_here", "_law_below"] spDrw) : FnOk P w K mg base CX0 (k + 1) f fd ["_law_well_here", "_law_some"] spPick := by
  refine F.ok scPick (fun vs H Q E h => ?_) (fun cdv A outer s H vs Q E hr h => ?_)
  · obtain ⟨a, p, N, xs, rfl, _⟩ := h
    rfl
  · obtain ⟨a, p, N, xs, rfl, hw, hN, hpa, hp, hne, hl, q⟩ := h
    have hpos : 0 < xs.length := List.length_pos_iff.mpr hne
    refine ⟨_, (pss_one (ps_ret (pe_ix ix_listH (pv 1) (pe_lnk LDraw hr rfl (pa_cons (pv 0) (pa_cons (pe_callB call_len_seq (by rfl) T.len PySem.boot_len (pa_cons (pv 1) pa_nil)) pa_nil))) (fun _ _ => rfl)))), ?_⟩
    refine ⟨_, rfl, _, rfl, _, rfl, p, _, rfl, .inl (SqL.of hp), a, _, N, rfl, hw, by omega, by omega, hN, fun d H2 d1 s2 w2 => ?_⟩
    have d2 : d < xs.length := by omega
    have e := List.getElem?_eq_getElem d2
    exact ⟨p, xs, _, _, rfl, rfl, s2 _ _ hpa hp, atI_nat e, q d _ H2 e s2 w2⟩
end
abbrev sNms : Stmt := topS 25
theorem scNms : FnScope ["_law_well_here", "_law_count", "_law_stems", "_law_stem", "_law_first", "_law_signs", "_law_at"] ["_law_well_here", "_law_count", "_law_stems"] (defScope sNms) := ⟨rfl, rfl, rfl, by decide +kernel, rfl, by decide +kernel, by decide +kernel⟩
def signZ : Str := "abcdefghijklmnopqrstuvwxyz0123456789"
/-- the c-th sign, alone -/
def sign1 (c : Nat) : Str := ⟨#[signZ.cps.getD (c % 36) 0]⟩
def namesOf (stem : Str) (first count : Nat) : List Str := (List.range count).map fun i => stem ++ sign1 (first + 5 * i)
def spNms : Sp := fun vs H Q _ => ∃ (a p : Addr) (N n : Nat) (stems : List Str), vs = [.ref a, .int (n : Nat), .ref p] ∧ WellAt H a N ∧ N ≤ 2 ^ 39 ∧ p ≠ a ∧ H p = some (.lst (stems.map V.str)) ∧ stems ≠ [] ∧ stems.length < 100 ∧ (∀ z ∈ stems, z.length < 1000) ∧ n ≤ 36 ∧
  ∀ (stem : Str) (first : Nat) (D : Addr) (H2 : Hp), stem ∈ stems → first < 36 → Sab a H H2 → WellAt H2 a (N + 2) → H D = none → H2 D = some (.lst ((sortS (namesOf stem first n)).map V.str)) → Q (.ref D) H2
section
variable {P : Program} {w : World} {K : PySem.W.Frag} {mg : Str → Option Value} {base : Heap}
theorem ok_Nms {f : Addr} {fd : FuncData} {k : Nat} (F : Fun K "_law_names" "_law_names" sNms f fd) (T : Bl mg) (LDraw : Lnk P w K mg base "_law_draw" k ["_law_well_here", "_law_below"] spDrw) (LPick : Lnk P w K mg base "_law_pick" k ["_law_well_here", "_law_some"] spPick) : FnOk P w K mg base CX0 (k + 1) f fd ["_law_well_here", "_law_count", "_law_stems"] spNms := by
  refine F.ok scNms (fun vs H Q E h => ?_) (fun cdv A outer s H vs Q E hr h => ?_)
  · obtain ⟨a, p, N, n, stems, rfl, _⟩ := h
    rfl
  · obtain ⟨a, p, N, n, stems, rfl, hw, hN, hpa, hp, hne, hl, hsz, hn, q⟩ := h
    refine ⟨_, (pss_cons (ps_asg (pe_tup (pa_cons (pe_lnk LPick hr rfl (pa_cons (pv 0) (pa_cons (pv 2) pa_nil))) (pa_cons (pe_lnk LDraw hr rfl (pa_cons (pv 0) (pa_cons pe_int pa_nil))) pa_nil))) (pg_tup rfl (pgs_cons (pg_name (i := 3) scNms.nd rfl (Or.inr rfl)) (pgs_cons (pg_name (i := 4) scNms.nd rfl (Or.inr rfl)) pgs_nil))))
      (pss_cons (ps_set (i := 5) scNms.nd rfl (Or.inr rfl) pe_str)
      (pss_one (ps_ret (pe_callB cr_sortedS (by rfl) T.sorted (by decide +kernel) (pa_cons (pe_lc (own := [("_law_at", 6)]) rfl scNms.nd (pi_range1 rfl T.range (pa_cons (pv 1) pa_nil)) (blkOk_by (N := ["_law_well_here", "_law_count", "_law_stems", "_law_stem", "_law_first", "_law_signs", "_law_at"]) (sc := defScope sNms) (by decide +kernel)) (fun _ _ _ _ _ => (pg_name (i := 6) scNms.nd rfl (Or.inl rfl))) (fun _ _ _ _ _ => pts_nil) (fun _ _ _ _ _ => (pe_op op_add_str (pv 3) (pe_item_str (pv 5) (pe_op op_mod (pe_op op_add (pv 4) (pe_op op_mul pe_int (pv 6))) pe_int) (fun _ _ => rfl))))) pa_nil)))))), ?_⟩
    rw [show L2.start ["_law_well_here", "_law_count", "_law_stems", "_law_stem", "_law_first", "_law_signs", "_law_at"] [.ref a, .int (n : Nat), .ref p] = [some (.ref a), some (.int (n : Nat)), some (.ref p), none, none, none, none] from rfl]
    simp only [tSeq, tAsg, gName, tOp, tUn, tVar, tC, rI, rI0, tIfS, tTest, tCB, tCons, tNil, tRet, tRetN, tNext, tDrop, tLst, tTup, cxOf, rIxLH, rIxTH, gSub, rSetL, tAnd, tOr, tNot, tB, tIf, tCall, gTup, gCons, gNil, tPar, tAug, tAndV, tOrV, tNotV, upd_same, upd_upd, HO.lst.injEq, HO.tup.injEq, Option.some.injEq, V.int.injEq, V.ref.injEq, V.bl.injEq, V.str.injEq, List.cons.injEq, and_true, true_and, exists_eq_left', exists_eq_left, exists_and_left, exists_eq_right, exists_eq_right', List.set_cons_succ, List.set_cons_zero, List.getElem?_cons_zero, List.getElem?_cons_succ, List.cons_append, List.nil_append, List.append_nil, reduceCtorEq, false_and, and_false, exists_false, false_or, or_false, Int.reduceLT, Int.reduceLE, List.length_cons, List.length_nil, Nat.reduceAdd, implies_true, exists_const]
    have ksz : 5000 ≤ sizeLine := by decide
    refine ⟨a, p, N, _, rfl, hw, by omega, hpa, hp, by rw [Ne, List.map_eq_nil_iff]; exact hne, by rw [List.length_map]; omega, fun i v H1 hv s1 w1 => ?_⟩
    rw [List.getElem?_map] at hv
    cases hst : stems[i]? with
    | none =>
      rw [hst] at hv
      cases hv
    | some stem =>
      rw [hst] at hv
      cases hv
      have hmem := List.mem_of_getElem? hst
      refine ⟨a, 36, N + 1, rfl, w1, by decide, by decide, by omega, fun first H2 hf s2 w2 => ⟨by decide, fun t nt => ⟨_, SqT.of upd_same, rfl, _, _, rfl, _, _, rfl, rfl, ?_⟩⟩⟩
      have t1 := same_upd (o := .tup [V.str stem, V.int (first : Nat)]) nt
      refine ⟨_, rfl, (n : Nat), rfl, by omega, by omega, fun D nD => lco ((List.range n).map fun i => some (V.str (stem ++ sign1 (first + 5 * i)))) (n := n) (It := ItL (nums 0 n)) walk_nums (by rw [List.length_map, List.length_range]) (by omega) nD (fun t x o H3 R R0 lt hx ho s3 r1 r0 => ?_) (fun H3 s3 hD => ?_)⟩
      · unfold ItL nums at hx
        rw [List.getElem?_map, List.getElem?_range lt] at hx ho
        cases hx
        cases ho
        have e0 : ((first : Nat) + 5 * (0 + (t : Nat)) : Int) % 36 = (((first + 5 * t) % 36 : Nat) : Int) := by omega
        have hlt : (first + 5 * t) % 36 < signZ.cps.size := by
          have z : signZ.cps.size = 36 := by decide +kernel
          rw [z]
          omega
        refine ⟨rfl, _, rfl, _, rfl, _, rfl, _, rfl, 5, _, rfl, rfl, .inl (by decide), _, _, rfl, rfl, _, _, rfl, rfl, (show (0 : Int) < 36 by decide), _, rfl, _, rfl, ?_, ?_, ?_, signZ.cps.getD ((first + 5 * t) % 36) 0, ?_, stem, rfl, _, rfl, ?_, r1 _ _ rfl (Same.refl _)⟩
        · rw [e0]
          omega
        · rw [e0]
          omega
        · rw [e0]
          have z : (Str.ofString "abcdefghijklmnopqrstuvwxyz0123456789").length = 36 := by decide +kernel
          rw [z]
          omega
        · rw [e0]
          show signZ.cps[(first + 5 * t) % 36]? = _
          rw [Array.getElem?_eq_getElem hlt, Array.getD_eq_getD_getElem?, Array.getElem?_eq_getElem hlt]
          rfl
        · have z := hsz stem hmem
          show stem.length + 1 ≤ sizeLine
          omega
      · rw [keep_some] at hD
        refine ⟨D, namesOf stem first n, rfl, SqL.of (by rw [hD]; unfold namesOf; rw [List.map_map]; rfl), by unfold namesOf; rw [List.length_map, List.length_range]; omega, fun ys E hp hs nE => ?_⟩
        have e : ys = sortS (namesOf stem first n) := List.Perm.eq_of_pairwise (le := fun x y => leS x y = true) (fun _ _ _ _ h1 h2 => leS_anti h1 h2) (sortedS_pw hs) (sortS_sorted _) (hp.trans (sortS_perm _).symm)
        rw [e]
        have s13 : Sab a H H3 := s1.trans (s2.trans ((sab_of t1).trans (sab_of s3)))
        have hE : H E = none := by
          cases he : H E with
          | none => rfl
          | some oo =>
            by_cases ea : E = a
            · obtain ⟨_, z⟩ := (w2.mono (same_tr t1 s3)).some
              rw [ea, z] at nE
              cases nE
            · rw [s13 _ _ ea he] at nE
              cases nE
        exact q stem first E _ hmem (by omega) (s13.trans (sab_of (same_upd nE))) (((w2.mono t1).mono s3).mono (same_upd nE)) hE upd_same
end
abbrev sMix : Stmt := topS 28
theorem scMix : FnScope ["_law_well_here", "_law_some", "_law_left", "_law_found"] ["_law_well_here", "_law_some"] (defScope sMix) := ⟨rfl, rfl, rfl, by decide +kernel, rfl, by decide +kernel, by decide +kernel⟩
theorem perm_erase {α : Type} : ∀ (l : List α) (i : Nat) (h : i < l.length), (l[i] :: l.eraseIdx i).Perm l
  | x :: l, 0, h => List.Perm.refl _
  | x :: l, i + 1, h => by
    have h1 := perm_erase l i (Nat.lt_of_succ_lt_succ h)
    exact (List.Perm.swap _ _ _).trans (h1.cons x)
theorem map_erase {α β : Type} (f : α → β) : ∀ (l : List α) (i : Nat), (l.map f).eraseIdx i = (l.eraseIdx i).map f
  | [], i => by simp
  | x :: l, 0 => rfl
  | x :: l, i + 1 => by
    show f x :: (l.map f).eraseIdx i = f x :: (l.eraseIdx i).map f
    rw [map_erase f l i]
theorem sab_updN {a p : Addr} {H H1 : Hp} {o : HO} (s : Sab a H H1) (n : H p = none) : Sab a H (upd H1 p o) := fun b u nb e => by
  rw [upd_ne (ne_of_none e n)]
  exact s b u nb e
theorem none_of_sab {a p : Addr} {H H1 : Hp} (s : Sab a H H1) (np : H1 p = none) (na : p ≠ a) : H p = none := by
  cases e : H p with
  | none => rfl
  | some o =>
    rw [s _ _ na e] at np
    cases np
theorem shaped_lst {a : List Str} (ha : a.all isNameS = true) : SeqAt.shaped (.list (a.map PyData.str)) = true := by
  unfold SeqAt.shaped
  rw [Bool.and_eq_true]
  refine ⟨lay_strs ha, decide_eq_true ?_⟩
  show PyData.depthAll (a.map PyData.str) + 1 ≤ 64
  rw [depth_strs]
  decide
def spMix : Sp := fun vs H Q _ => ∃ (a p : Addr) (N : Nat) (zs : List Str), vs = [.ref a, .ref p] ∧ WellAt H a N ∧ N ≤ 2 ^ 39 ∧ p ≠ a ∧ H p = some (.lst (zs.map V.str)) ∧ zs.length ≤ 1000 ∧ zs.all isNameS = true ∧
  ∀ (ys : List Str) (D : Addr) (H2 : Hp), ys.Perm zs → Sab a H H2 → WellAt H2 a (N + zs.length) → H D = none → H2 D = some (.lst (ys.map V.str)) → Q (.ref D) H2
section
variable {P : Program} {w : World} {K : PySem.W.Frag} {mg : Str → Option Value} {base : Heap}
theorem ok_Mix {f : Addr} {fd : FuncData} {k : Nat} (F : Fun K "_law_mixed" "_law_mixed" sMix f fd) (T : Bl mg) (LDraw : Lnk P w K mg base "_law_draw" k ["_law_well_here", "_law_below"] spDrw) : FnOk P w K mg base CX0 (k + 1) f fd ["_law_well_here", "_law_some"] spMix := by
  refine F.ok scMix (fun vs H Q E h => ?_) (fun cdv A outer s H vs Q E hr h => ?_)
  · obtain ⟨a, p, N, zs, rfl, _⟩ := h
    rfl
  · obtain ⟨a, p, N, zs, rfl, hw, hN, hpa, hp, hl, hok, q⟩ := h
    have hu : (A.deeper (envOfC "_law_mixed" (defScope sMix) s.heap.objs.size f cdv)).units + 64 < cLine := hr.units
    have ksz : 5000 ≤ sizeLine := by decide
    refine ⟨_, (pss_cons (ps_par (i := 2) (j := 3) (by rfl) scMix.nd rfl rfl (by decide) rfl rfl (pa_cons (pe_callTy call_list_of (by rfl) T.list (by decide +kernel) (pa_cons (pv 1) pa_nil)) (pa_cons (pe_lst pa_nil) pa_nil)) (by rfl))
      (pss_cons (ps_while PassesOwn.never (pt_cmpR (op_neR hu) (pv 2) (pe_lst pa_nil) (nomark _)) (pss_one (ps_expr (pe_bm PySem.F.plainAttrs_list PySem.F.slot_list_append PySem.F.type_list_append mt_append (pv 3) (pa_cons (pe_bm PySem.F.plainAttrs_list PySem.F.slot_list_pop PySem.F.type_list_pop mt_popAt (pv 2) (pa_cons (pe_lnk LDraw hr rfl (pa_cons (pv 0) (pa_cons (pe_callB call_len_seq (by rfl) T.len PySem.boot_len (pa_cons (pv 2) pa_nil)) pa_nil))) pa_nil)) pa_nil)))))
      (pss_one (ps_ret (pv 3))))), ?_⟩
    rw [show L2.start ["_law_well_here", "_law_some", "_law_left", "_law_found"] [.ref a, .ref p] = [some (.ref a), some (.ref p), none, none] from rfl]
    simp only [tSeq, tAsg, gName, tOp, tUn, tVar, tC, rI, rI0, tIfS, tTest, tCB, tCons, tNil, tRet, tRetN, tNext, tDrop, tLst, tTup, cxOf, rIxLH, rIxTH, gSub, rSetL, tAnd, tOr, tNot, tB, tIf, tCall, gTup, gCons, gNil, tPar, tAug, tAndV, tOrV, tNotV, upd_same, upd_upd, HO.lst.injEq, HO.tup.injEq, Option.some.injEq, V.int.injEq, V.ref.injEq, V.bl.injEq, V.str.injEq, List.cons.injEq, and_true, true_and, exists_eq_left', exists_eq_left, exists_and_left, exists_eq_right, exists_eq_right', List.set_cons_succ, List.set_cons_zero, List.getElem?_cons_zero, List.getElem?_cons_succ, List.cons_append, List.nil_append, List.append_nil, reduceCtorEq, false_and, and_false, exists_false, false_or, or_false, Int.reduceLT, Int.reduceLE, List.length_cons, List.length_nil, Nat.reduceAdd, implies_true, exists_const]
    refine ⟨_, .inl (SqL.of hp), fun l nl => ⟨Nat.zero_le _, fun r nr => ⟨_, _, ⟨rfl, rfl⟩, ?_⟩⟩⟩
    obtain ⟨nr0, nrl⟩ := none_upd nr
    obtain ⟨wx, hwx⟩ := hw.some
    have nla : l ≠ a := fun z => by
      rw [z, hwx] at nl
      cases nl
    have nra : r ≠ a := fun z => by
      rw [z, hwx] at nr0
      cases nr0
    have i1 := same_upd (o := .lst (zs.map V.str)) nl
    have i2 := same_upd (o := .lst []) nr
    refine ⟨fun m σ H2 => σ = [some (.ref a), some (.ref p), some (.ref l), some (.ref r)] ∧ ∃ ls fs : List Str, m = ls.length ∧ (ls ++ fs).Perm zs ∧ Sab a H H2 ∧ WellAt H2 a (N + fs.length) ∧ H2 l = some (.lst (ls.map V.str)) ∧ H2 r = some (.lst (fs.map V.str)),
      ⟨zs.length, rfl, zs, [], rfl, by rw [List.append_nil], sab_of (same_tr i1 i2), (hw.mono i1).mono i2, i2 _ _ upd_same, upd_same⟩, ?_⟩
    rintro m σ H2 ⟨rfl, ls, fs, rfl, hpm, sH, hw2, hl2, hr2⟩
    have hlen := hpm.length_eq
    rw [List.length_append] at hlen
    have hall : ls.all isNameS = true := by
      rw [List.all_eq_true] at hok ⊢
      exact fun z hz => hok z (hpm.mem_iff.mp (List.mem_append_left _ hz))
    refine ⟨_, rfl, Nat.zero_le _, fun t nt => ⟨.list (ls.map PyData.str), .list [], .lst (same_upd nt _ _ hl2) (dr_strs _), .lst upd_same .nil, shaped_lst hall, by decide, _, rfl, ?_⟩⟩
    have t3 := same_upd (o := .lst []) nt
    have s3 : Sab a H (upd H2 t (.lst [])) := sH.trans (sab_of t3)
    cases ls with
    | nil => exact ⟨_, rfl, q fs r _ hpm s3 ((hw2.mono t3).le (by rw [List.length_nil] at hlen; omega)) nr0 (t3 _ _ hr2)⟩
    | cons z ls =>
      have e0 : PyData.eqv (.list ((z :: ls).map PyData.str)) (.list []) = false := rfl
      rw [e0]
      refine ⟨_, fun σ4 H4 z => ⟨ls.length, Nat.lt_succ_self _, z⟩, ?_⟩
      have hl3 := t3 _ _ hl2
      have hr3 := t3 _ _ hr2
      refine ⟨_, rfl, .inl ⟨rfl, _, SqL.of hr3⟩, _, rfl, .inl ⟨rfl, _, SqL.of hl3⟩, _, rfl, _, rfl, l, rfl, _, .inl (SqL.of hl3), a, _, N + fs.length, rfl, hw2.mono t3, ?_, ?_, ?_, fun d H4 hd s4 w4 => ?_⟩
      · rw [List.length_map, List.length_cons]
        omega
      · rw [List.length_map]
        omega
      · omega
      · rw [List.length_map] at hd
        have hd2 : d < (z :: ls).length := by omega
        have hget := List.getElem?_eq_getElem hd2
        have hl4 := s4 _ _ nla hl3
        have hr4 := s4 _ _ nra hr3
        refine ⟨l, _, _, d, .str ((z :: ls)[d]), rfl, rfl, hl4, by omega, by omega, ?_, ?_, r, fs.map V.str, _, rfl, rfl, ?_, ?_, ?_⟩
        · rw [List.length_map]
          exact seqIndex_of (by omega) hd
        · rw [List.getElem?_map, hget]
          rfl
        · rw [upd_ne nrl]
          exact hr4
        · rw [List.length_map]
          omega
        · have s5 : Sab a H (upd (upd H4 l (.lst (((z :: ls).map V.str).eraseIdx d))) r (.lst (fs.map V.str ++ [V.str ((z :: ls)[d])]))) := sab_updN (sab_updN (s3.trans s4) nl) nr0
          refine ⟨rfl, (z :: ls).eraseIdx d, fs ++ [(z :: ls)[d]], ?_, ?_, s5, ?_, ?_, ?_⟩
          · rw [List.length_eraseIdx_of_lt hd2, List.length_cons, Nat.add_sub_cancel]
          · have pe : ((z :: ls)[d] :: (z :: ls).eraseIdx d).Perm (z :: ls) := perm_erase _ d hd2
            refine List.Perm.trans ?_ hpm
            refine List.Perm.trans ?_ (pe.append_right fs)
            rw [← List.append_assoc]
            refine List.Perm.trans List.perm_append_comm ?_
            rfl
          · obtain ⟨o, b, n, g1, g2⟩ := w4
            rw [List.length_append, List.length_singleton]
            refine ⟨o, b, n, ?_, g2⟩
            rw [upd_ne nra.symm, upd_ne nla.symm]
            exact g1
          · rw [upd_ne nrl.symm, upd_same, map_erase]
          · rw [upd_same, List.map_append]
            rfl
end

end LK
namespace LK
open PySem PySem.Spec PyProof.Rows L2

abbrev sNds : Stmt := topS 27
theorem scNds : FnScope ["_law_well_here", "_law_symbols", "_law_at", "_law_way", "_law_count", "_law_found", "_law_turn", "_law_one"] ["_law_well_here", "_law_symbols", "_law_at", "_law_way"] (defScope sNds) := ⟨rfl, rfl, rfl, by decide +kernel, rfl, by decide +kernel, by decide +kernel⟩
def spNds : Sp := fun vs H Q _ => ∃ (a p : Addr) (N t wy : Nat) (zs : List Str), vs = [.ref a, .ref p, .int (t : Nat), .int (wy : Nat)] ∧ WellAt H a N ∧ N ≤ 2 ^ 39 ∧ p ≠ a ∧ H p = some (.lst (zs.map V.str)) ∧ zs.length ≤ 1000 ∧ t < zs.length ∧
  ∀ (ys : List Str) (D : Addr) (H2 : Hp), (∀ y ∈ ys, y ∈ zs ∨ y = "unknown") → ys.length ≤ 10 → Sab a H H2 → WellAt H2 a (N + 6) → H D = none → H2 D = some (.lst (ys.map V.str)) → Q (.ref D) H2
section
variable {P : Program} {w : World} {K : PySem.W.Frag} {mg : Str → Option Value} {base : Heap}
theorem ok_Nds {f : Addr} {fd : FuncData} {k : Nat} (F : Fun K "_law_needs" "_law_needs" sNds f fd) (T : Bl mg) (LDraw : Lnk P w K mg base "_law_draw" k ["_law_well_here", "_law_below"] spDrw) (LPick : Lnk P w K mg base "_law_pick" k ["_law_well_here", "_law_some"] spPick) : FnOk P w K mg base CX0 (k + 1) f fd ["_law_well_here", "_law_symbols", "_law_at", "_law_way"] spNds := by
  refine F.ok scNds (fun vs H Q E h => ?_) (fun cdv A outer s H vs Q E hr h => ?_)
  · obtain ⟨a, p, N, t, wy, zs, rfl, _⟩ := h
    rfl
  · obtain ⟨a, p, N, t, wy, zs, rfl, hw, hN, hpa, hp, hl, ht, q⟩ := h
    have hu : (A.deeper (envOfC "_law_needs" (defScope sNds) s.heap.objs.size f cdv)).units + 64 < cLine := hr.units
    have ksz : 5000 ≤ sizeLine := by decide
    refine ⟨_, (pss_cons (ps_par (i := 4) (j := 5) (by rfl) scNds.nd rfl rfl (by decide) rfl rfl (pa_cons (pe_callB call_len_seq (by rfl) T.len PySem.boot_len (pa_cons (pv 1) pa_nil)) (pa_cons (pe_lst pa_nil) pa_nil)) (by rfl))
      (pss_cons (ps_mid (ps_if (PW.pt (pw_and (pt_cmpR (show OpR _ (compareOp .In) (rIn K false) from op_in_seq) (pv 3) (pe_tup (pa_cons pe_int (pa_cons pe_int pa_nil))) rfl) (pw_and1 (pt_cmpR op_lt (pe_op op_add (pv 2) pe_int) (pv 4) (nomark _))))) (pss_one (ps_expr (pe_bm PySem.F.plainAttrs_list PySem.F.slot_list_append PySem.F.type_list_append mt_append (pv 5) (pa_cons (pe_ix ix_listH (pv 1) (pe_op op_add (pv 2) pe_int) (fun _ _ => rfl)) pa_nil)))) pss_nil))
      (pss_cons (ps_mid (ps_if (pt_cmpR op_eq (pv 3) pe_int (nomark _)) (pss_one (ps_expr (pe_bm PySem.F.plainAttrs_list PySem.F.slot_list_append PySem.F.type_list_append mt_append (pv 5) (pa_cons (pe_ix ix_listH (pv 1) (pe_op op_mod (pe_op op_add (pv 2) pe_int) (pv 4)) (fun _ _ => rfl)) pa_nil)))) pss_nil))
      (pss_cons (ps_for PassesOwn.never rfl (pi_range1 rfl T.range (pa_cons (pe_lnk LPick hr rfl (pa_cons (pv 0) (pa_cons (pe_up (pe_ifExp (pt_cmpR op_lt (pv 3) pe_int (nomark _)) (pe_lst (pa_cons pe_int (pa_cons pe_int (pa_cons pe_int (pa_cons pe_int (pa_cons pe_int pa_nil)))))) (pe_lst (pa_cons pe_int (pa_cons pe_int (pa_cons pe_int (pa_cons pe_int pa_nil))))))) pa_nil))) pa_nil)) (pg_name (i := 6) scNds.nd rfl (Or.inl rfl))
      (pss_one (ps_expr (pe_bm PySem.F.plainAttrs_list PySem.F.slot_list_append PySem.F.type_list_append mt_append (pv 5) (pa_cons (pe_lnk LPick hr rfl (pa_cons (pv 0) (pa_cons (pv 1) pa_nil))) pa_nil)))))
      (pss_cons (ps_mid (ps_if (pt_cmpR op_eq (pv 3) pe_int (nomark _)) (pss_one (ps_setLc (i := 5) (own := [("_law_one", 7)]) rfl scNds.nd rfl rfl (sw_true rfl rfl rfl (by decide +kernel)) (pi_list (pv 5)) (blkOk_by (N := ["_law_well_here", "_law_symbols", "_law_at", "_law_way", "_law_count", "_law_found", "_law_turn", "_law_one"]) (sc := defScope sNds) (by decide +kernel)) (fun _ _ _ _ _ => (pg_name (i := 7) scNds.nd rfl (Or.inl rfl))) (fun _ _ _ _ _ => pts_one (pt_cmpR (show OpR _ (compareOp .In) (rIn K false) from op_in_seq) (pv 7) (pe_slice (show L2.SlR _ (rSlL K) from sl_list) (pv 1) (po_some (pv 2)) po_none) rfl)) (fun _ _ _ _ _ => (pv 7)))) pss_nil))
      (pss_one (ps_ret (pe_op op_cat (pv 5) (pe_op op_rep (pe_lst (pa_cons pe_str pa_nil)) (pe_callTy call_int1 (by rfl) T.int (by decide +kernel) (pa_cons (pe_cmpR op_eq (pe_lnk LDraw hr rfl (pa_cons (pv 0) (pa_cons pe_int pa_nil))) pe_int (nomark _)) pa_nil))))))))))), ?_⟩
    rw [show L2.start ["_law_well_here", "_law_symbols", "_law_at", "_law_way", "_law_count", "_law_found", "_law_turn", "_law_one"] [.ref a, .ref p, .int (t : Nat), .int (wy : Nat)] = [some (.ref a), some (.ref p), some (.int (t : Nat)), some (.int (wy : Nat)), none, none, none, none] from rfl]
    simp only [tSeq, tAsg, gName, tOp, tUn, tVar, tC, rI, rI0, tIfS, tTest, tCB, tCons, tNil, tRet, tRetN, tNext, tDrop, tLst, tTup, cxOf, rIxLH, rIxTH, gSub, rSetL, tAnd, tOr, tNot, tB, tIf, tCall, gTup, gCons, gNil, tPar, tAug, tAndV, tOrV, tNotV, upd_same, upd_upd, HO.lst.injEq, HO.tup.injEq, Option.some.injEq, V.int.injEq, V.ref.injEq, V.bl.injEq, V.str.injEq, List.cons.injEq, and_true, true_and, exists_eq_left', exists_eq_left, exists_and_left, exists_eq_right, exists_eq_right', List.set_cons_succ, List.set_cons_zero, List.getElem?_cons_zero, List.getElem?_cons_succ, List.cons_append, List.nil_append, List.append_nil, reduceCtorEq, false_and, and_false, exists_false, false_or, or_false, Int.reduceLT, Int.reduceLE, List.length_cons, List.length_nil, Nat.reduceAdd, implies_true, exists_const]
    obtain ⟨wx, hwx⟩ := hw.some
    have hzl : (zs.map V.str).length = zs.length := List.length_map _
    have item : ∀ (i : Nat), i < zs.length → (zs.map V.str)[i]? = some (.str (zs.getD i "")) := fun i hi => by
      rw [List.getElem?_map, List.getElem?_eq_getElem hi, List.getD_eq_getElem?_getD, List.getElem?_eq_getElem hi]
      rfl
    have itemM : ∀ (i : Nat), i < zs.length → zs.getD i "" ∈ zs := fun i hi => by
      rw [List.getD_eq_getElem?_getD, List.getElem?_eq_getElem hi]
      exact List.getElem_mem hi
    -- between the statements
    let M : Nat → Nat → L2.St → Hp → Prop := fun n b σ H1 => ∃ (D : Addr) (fs : List Str) (tn on : Option V), σ = [some (.ref a), some (.ref p), some (.int (t : Nat)), some (.int (wy : Nat)), some (.int ((zs.map V.str).length : Nat)), some (.ref D), tn, on] ∧ Sab a H H1 ∧ WellAt H1 a (N + b) ∧ H D = none ∧ H1 D = some (.lst (fs.map V.str)) ∧ (∀ y ∈ fs, y ∈ zs) ∧ fs.length ≤ n
    have add : ∀ (n b : Nat) (H1 : Hp) (D : Addr) (fs : List Str) (tn on : Option V) (y : Str), Sab a H H1 → WellAt H1 a (N + b) → H D = none → H1 D = some (.lst (fs.map V.str)) → (∀ y ∈ fs, y ∈ zs) → fs.length ≤ n → y ∈ zs →
        M (n + 1) b [some (.ref a), some (.ref p), some (.int (t : Nat)), some (.int (wy : Nat)), some (.int ((zs.map V.str).length : Nat)), some (.ref D), tn, on] (upd H1 D (.lst (fs.map V.str ++ [V.str y]))) := fun n b H1 D fs tn on y h1 h2 h3 h4 h5 h6 h7 => by
      have nDa : D ≠ a := fun z => by
        rw [z, hwx] at h3
        cases h3
      obtain ⟨o, c, m, g1, g2⟩ := h2
      refine ⟨D, fs ++ [y], tn, on, rfl, sab_updN h1 h3, ⟨o, c, m, by rw [upd_ne nDa.symm]; exact g1, g2⟩, h3, by rw [upd_same, List.map_append]; rfl, fun z hz => ?_, by rw [List.length_append, List.length_singleton]; omega⟩
      rcases List.mem_append.mp hz with e | e
      · exact h5 z e
      · rw [List.mem_singleton.mp e]
        exact h7
    refine ⟨_, .inl (SqL.of hp), Nat.zero_le _, fun D nD => ⟨_, _, ⟨rfl, rfl⟩, ?_⟩⟩
    have i1 := same_upd (o := .lst []) nD
    refine ⟨M 1 0, ?_, ?_⟩
    · -- if way in (0, 1) ..
      refine ⟨_, rfl, (by decide), fun q1 nq1 => ?_⟩
      have i2 := same_tr i1 (same_upd (o := .tup [V.int 0, V.int 1]) nq1)
      have hD2 := same_upd (o := .tup [V.int 0, V.int 1]) nq1 D _ (upd_same (H := H) (o := .lst []))
      refine ⟨q1, _, rfl, .inr (SqT.of upd_same), rfl, rfl, _, rfl, ?_⟩
      have stay : M 1 0 [some (.ref a), some (.ref p), some (.int (t : Nat)), some (.int (wy : Nat)), some (.int ((zs.map V.str).length : Nat)), some (.ref D), none, none] (upd (upd H D (.lst [])) q1 (.tup [V.int 0, V.int 1])) := ⟨D, [], none, none, rfl, sab_of i2, hw.mono i2, nD, hD2, fun y hy => (nomatch hy), by decide⟩
      refine ite2 (fun _ => ?_) (fun _ => stay)
      refine ⟨_, rfl, _, _, rfl, rfl, _, rfl, _, _, rfl, rfl, _, rfl, ?_⟩
      refine ite2 (fun c => ?_) (fun _ => stay)
      have c1 : ((t : Nat) : Int) + 1 < ((zs.map V.str).length : Nat) := of_decide_eq_true c
      rw [hzl] at c1
      refine ⟨_, rfl, .inl ⟨rfl, _, SqL.of hD2⟩, _, rfl, _, rfl, _, _, rfl, rfl, p, _, _, _, rfl, rfl, i2 _ _ hp, atI_nat (j := t + 1) (item (t + 1) (by omega)), D, [], _, rfl, rfl, hD2, by decide, ?_⟩
      exact add 0 0 _ D [] none none _ (sab_of i2) (hw.mono i2) nD hD2 (fun y hy => (nomatch hy)) (by decide) (itemM (t + 1) (by omega))
    rintro σ2 H2 ⟨D, fs, tn, on, rfl, sH, hw2, nD, hD, hfs, hfl⟩
    refine ⟨M 2 0, ?_, ?_⟩
    · -- if way == 1 ..
      refine ⟨_, rfl, rfl, _, rfl, ?_⟩
      refine ite2 (fun _ => ?_) (fun _ => ⟨D, fs, tn, on, rfl, sH, hw2, nD, hD, hfs, by omega⟩)
      have hpos : (0 : Int) < ((zs.map V.str).length : Nat) := by rw [hzl]; omega
      have e0 : (((t : Nat) : Int) + 1) % ((zs.map V.str).length : Nat) = (((t + 1) % zs.length : Nat) : Int) := by rw [hzl]; exact (Int.natCast_emod (t + 1) zs.length).symm
      have hlt : (t + 1) % zs.length < zs.length := Nat.mod_lt _ (by omega)
      refine ⟨_, rfl, .inl ⟨rfl, _, SqL.of hD⟩, _, rfl, _, rfl, _, _, rfl, rfl, _, rfl, _, _, rfl, rfl, hpos, p, _, _, _, rfl, rfl, sH _ _ hpa hp, ?_, D, _, _, rfl, rfl, hD, by rw [List.length_map]; omega, add 1 0 _ D fs tn on _ sH hw2 nD hD hfs hfl (itemM _ hlt)⟩
      rw [e0]
      exact atI_nat (item _ hlt)
    rintro σ2 H2 ⟨D, fs, tn, on, rfl, sH, hw2, nD, hD, hfs, hfl⟩
    -- for turn in range(pick(..)) ..
    refine ⟨_, rfl, fun v H3 => ∃ (L : Addr) (xs : List Nat), v = .ref L ∧ Same H2 H3 ∧ L ≠ a ∧ H3 L = some (.lst (xs.map fun x : Nat => V.int (x : Nat))) ∧ xs ≠ [] ∧ xs.length < 100 ∧ ∀ x ∈ xs, x ≤ 4, ?_, ?_⟩
    · obtain ⟨_, hwy⟩ := hw2.some
      refine ⟨_, rfl, _, _, rfl, rfl, _, rfl, ?_⟩
      refine ite2 (fun _ => ⟨by decide, fun L nL => ?_⟩) (fun _ => ⟨by decide, fun L nL => ?_⟩)
      · exact ⟨L, [0, 0, 1, 1, 2], rfl, same_upd nL, (fun z => by rw [z, hwy] at nL; cases nL), upd_same, by decide, by decide, by decide⟩
      · exact ⟨L, [1, 2, 3, 4], rfl, same_upd nL, (fun z => by rw [z, hwy] at nL; cases nL), upd_same, by decide, by decide, by decide⟩
    rintro v H3 ⟨L, xs, rfl, s3, nLa, hL, hne, hxl, hx4⟩
    refine ⟨a, L, N, _, rfl, hw2.mono s3, by omega, nLa, hL, by rw [Ne, List.map_eq_nil_iff]; exact hne, by rw [List.length_map]; omega, fun i v H4 hv s4 w4 => ?_⟩
    rw [List.getElem?_map] at hv
    cases hxi : xs[i]? with
    | none =>
      rw [hxi] at hv
      cases hv
    | some m =>
      rw [hxi] at hv
      cases hv
      have hm := hx4 m (List.mem_of_getElem? hxi)
      have nDa : D ≠ a := fun z => by
        rw [z, hwx] at nD
        cases nD
      refine ⟨_, rfl, by omega, by omega, for_range (n := m) (fun i σ H1 => M (2 + i) (1 + i) σ H1) ⟨D, fs, tn, on, rfl, sH.trans ((sab_of s3).trans s4), w4, nD, s4 _ _ nDa (s3 _ _ hD), hfs, by omega⟩ (fun i σ H5 hi hM => ?_) (fun σ H5 hM => ?_)⟩
      · obtain ⟨D, fs, tn, on, rfl, sH, hw2, nD, hD, hfs, hfl⟩ := hM
        refine ⟨_, rfl, .inl ⟨rfl, _, SqL.of hD⟩, _, rfl, _, rfl, a, p, N + (1 + i), _, rfl, hw2, by omega, hpa, sH _ _ hpa hp, by rw [Ne, List.map_eq_nil_iff]; exact fun z => by rw [z] at ht; exact absurd ht (Nat.not_lt_zero _), by rw [List.length_map]; omega, fun j v H6 hv s6 w6 => ?_⟩
        rw [List.getElem?_map] at hv
        cases hz : zs[j]? with
        | none =>
          rw [hz] at hv
          cases hv
        | some y =>
          rw [hz] at hv
          cases hv
          have nDa : D ≠ a := fun z => by
            rw [z, hwx] at nD
            cases nD
          exact ⟨D, _, _, rfl, rfl, s6 _ _ nDa hD, by rw [List.length_map]; omega, add (2 + i) (1 + (i + 1)) _ D fs (some (.int (0 + (i : Nat)))) on y (sH.trans s6) w6 nD (s6 _ _ nDa hD) hfs hfl (List.mem_of_getElem? hz)⟩
      · -- if way == 2 ..
        obtain ⟨D, fs, tn, on, rfl, sH, hw2, nD, hD, hfs, hfl⟩ := hM
        refine ⟨M 6 5, ?_, ?_⟩
        · refine ⟨_, rfl, rfl, _, rfl, ?_⟩
          refine ite2 (fun _ => ?_) (fun _ => ⟨D, fs, tn, on, rfl, sH, hw2.le (by omega), nD, hD, hfs, by omega⟩)
          refine ⟨_, rfl, D, rfl, ⟨_, SqL.of hD⟩, fun D2 nD2 => lco (fs.map fun z => if decide (z ∈ (zs.drop t)) = true then some (V.str z) else none) (walk_lst hD nD2) (by rw [List.length_map, List.length_map]) (by rw [List.length_map]; omega) nD2 (fun i y o H6 R R0 lt hy ho s6 r1 r0 => ?_) (fun H6 s6 hD2 => ?_)⟩
          · unfold ItL at hy
            rw [List.getElem?_map] at hy ho
            cases hz : fs[i]? with
            | none =>
              rw [hz] at hy
              cases hy
            | some z =>
              rw [hz] at hy ho
              cases hy
              have ho : some (if decide (z ∈ (zs.drop t)) = true then some (V.str z) else none) = some o := ho
              refine ⟨rfl, _, rfl, _, rfl, _, rfl, (t : Nat), rfl, p, _, rfl, SqL.of (s6 _ _ (sH _ _ hpa hp)), fun q2 nq2 => ?_⟩
              have ec : cutV (zs.map V.str) (some (t : Nat)) none = (zs.drop t).map V.str := by
                unfold cutV
                rw [HT.sIx_nat, HT.sIx_none, hzl, Nat.min_eq_left (by omega), List.map_drop, List.take_of_length_le (by rw [List.length_drop, hzl]; exact Nat.le_refl _)]
              rw [ec]
              refine ⟨q2, _, rfl, .inl (SqL.of upd_same), rfl, flat_strs, _, rfl, ?_⟩
              rw [inV_str]
              by_cases z1 : z ∈ zs.drop t
              · rw [decide_eq_true z1] at ho ⊢
                cases ho
                exact ⟨_, rfl, r1 _ _ rfl (same_upd nq2)⟩
              · rw [decide_eq_false z1] at ho ⊢
                cases ho
                exact r0 _ rfl (same_upd nq2)
          · rw [keep_filter] at hD2
            have nDa2 : D2 ≠ a := fun z => by
              obtain ⟨_, hh⟩ := hw2.some
              rw [z, hh] at nD2
              cases nD2
            exact ⟨D2, _, tn, on, rfl, sH.trans (sab_of s6), (hw2.mono s6).le (by omega), none_of_sab sH nD2 nDa2, hD2, fun y hy => hfs y (List.mem_filter.mp hy).1, Nat.le_trans (List.length_filter_le _ _) (by omega)⟩
        rintro σ2 H2 ⟨D, fs, tn, on, rfl, sH, hw2, nD, hD, hfs, hfl⟩
        -- return found + ['unknown'] * int(draw(..) == 0)
        refine ⟨_, rfl, (by decide), fun q1 nq1 => ?_⟩
        have i1 := same_upd (o := .lst [V.str "unknown"]) nq1
        have nDa : D ≠ a := fun z => by
          rw [z, hwx] at nD
          cases nD
        have nqa : q1 ≠ a := fun z => by
          obtain ⟨_, hh⟩ := hw2.some
          rw [z, hh] at nq1
          cases nq1
        refine ⟨_, rfl, a, 9, N + 5, rfl, hw2.mono i1, by decide, by decide, by omega, fun d H3 hd s3 w3 => ⟨rfl, .inr ⟨_, rfl, ?_⟩⟩⟩
        have hq1 := s3 _ _ nqa (upd_same (H := H2) (o := .lst [V.str "unknown"]))
        have hD3 := s3 _ _ nDa (i1 _ _ hD)
        have sH3 : Sab a H H3 := sH.trans ((sab_of i1).trans s3)
        generalize (decide (V.int (d : Nat) = V.int 0)) = b0
        refine ⟨q1, _, _, rfl, rfl, hq1, ?_, ?_, ?_, fun q2 nq2 => ?_⟩
        · cases b0 <;> decide
        · cases b0 <;> decide
        · cases b0 <;> decide
        · refine cat_use (same_upd nq2 _ _ hD3) upd_same ?_ (fun q3 nq3 => ?_)
          · have z : ∀ b : Bool, (List.replicate (Int.toNat (if b = true then 1 else 0)) [V.str "unknown"]).flatten.length ≤ 1 := by decide
            have z1 := z b0
            rw [List.length_map]
            omega
          · have j2 := same_upd (o := .lst (List.replicate (Int.toNat (if b0 = true then 1 else 0)) [V.str "unknown"]).flatten) nq2
            have j3 := same_upd (o := .lst (fs.map V.str ++ (List.replicate (Int.toNat (if b0 = true then 1 else 0)) [V.str "unknown"]).flatten)) nq3
            have sF : Sab a H (upd (upd H3 q2 (.lst (List.replicate (Int.toNat (if b0 = true then 1 else 0)) [V.str "unknown"]).flatten)) q3 (.lst (fs.map V.str ++ (List.replicate (Int.toNat (if b0 = true then 1 else 0)) [V.str "unknown"]).flatten))) := sH3.trans ((sab_of j2).trans (sab_of j3))
            have nqa3 : q3 ≠ a := fun z => by
              obtain ⟨_, hh⟩ := (w3.mono j2).some
              rw [z, hh] at nq3
              cases nq3
            have hn3 : H q3 = none := none_of_sab (sH3.trans (sab_of j2)) nq3 nqa3
            have wF := (w3.mono j2).mono j3
            cases b0 with
            | false => exact q fs q3 _ (fun y hy => .inl (hfs y hy)) (by omega) sF wF hn3 (by rw [upd_same]; simp)
            | true => exact q (fs ++ [("unknown" : Str)]) q3 _ (fun y hy => (List.mem_append.mp hy).elim (fun z => .inl (hfs y z)) (fun z => .inr (List.mem_singleton.mp z))) (by rw [List.length_append, List.length_singleton]; omega) sF wF hn3 (by rw [upd_same, List.map_append]; rfl)
end

end LK
namespace LK
open PySem PySem.Spec PyProof.Rows L2
/-! ### texts -/
theorem app_cps (a b : Str) : (a ++ b : Str).cps.toList = a.cps.toList ++ b.cps.toList := by
  show (a.cps ++ b.cps).toList = _
  rw [Array.toList_append]
theorem app_len (a b : Str) : (a ++ b : Str).length = a.length + b.length := by
  show (a.cps ++ b.cps).size = _
  rw [Array.size_append]
  rfl
theorem str_ext {a b : Str} (h : a.cps.toList = b.cps.toList) : a = b := by
  have hc : a.cps = b.cps := Array.toList_inj.mp h
  cases a
  cases b
  cases hc
  rfl
theorem app_inj {a b c : Str} (h : a ++ b = a ++ c) : b = c := by
  have h1 := congrArg (fun z : Str => z.cps.toList) h
  simp only [app_cps] at h1
  exact str_ext (List.append_cancel_left h1)
theorem sign_tab : ∀ c : Fin 36, ∀ d : Fin 36, signZ.cps.getD c.val 0 = signZ.cps.getD d.val 0 → c = d := by decide +kernel
theorem sign_inj {c d : Nat} (h : sign1 c = sign1 d) : c % 36 = d % 36 := by
  have h1 : signZ.cps.getD (c % 36) 0 = signZ.cps.getD (d % 36) 0 := by
    unfold sign1 at h
    have h2 := congrArg (fun z : Str => z.cps.toList) h
    simpa using h2
  have h3 := sign_tab ⟨c % 36, Nat.mod_lt _ (by decide)⟩ ⟨d % 36, Nat.mod_lt _ (by decide)⟩ h1
  exact congrArg Fin.val h3
theorem names_nodup {stem : Str} {f n : Nat} (h : n ≤ 36) : (namesOf stem f n).Nodup := by
  unfold namesOf
  refine List.Pairwise.map _ (R := fun i j : Nat => i < n ∧ j < n ∧ i ≠ j) ?_ ?_
  · rintro i j ⟨h1, h2, h3⟩ e
    have e1 := sign_inj (app_inj e)
    omega
  · have h1 := List.nodup_range (n := n)
    rw [List.pairwise_iff_getElem]
    intro i j hi hj hij
    rw [List.length_range] at hi hj
    rw [List.getElem_range, List.getElem_range]
    exact ⟨hi, hj, Nat.ne_of_lt hij⟩
theorem sign_ok : ∀ c : Fin 36, decide (signZ.cps.getD c.val 0 ∈ nameZ.cps.toList) = true := by decide +kernel
/-- a beginning that names may have -/
def stemOk (s : Str) : Bool := decide (s.length ≤ 7) && s.cps.toList.all fun c => decide (c ∈ nameZ.cps.toList)
theorem name_good {stem : Str} (h : stemOk stem = true) (c : Nat) : isNameS (stem ++ sign1 c) = true := by
  unfold stemOk at h
  rw [Bool.and_eq_true] at h
  have h1 := of_decide_eq_true h.1
  have h2 : (stem ++ sign1 c).length = stem.length + 1 := app_len _ _
  unfold isNameS
  rw [h2, decide_eq_true (by omega), decide_eq_true (by omega), app_cps, List.all_append, h.2]
  have h3 := sign_ok ⟨c % 36, Nat.mod_lt _ (by decide)⟩
  show (true && (true && (true && (decide (signZ.cps.getD (c % 36) 0 ∈ nameZ.cps.toList) && true)))) = true
  rw [h3]
  rfl
theorem last_sign (s : Str) (c : Nat) : cutS (s ++ sign1 c) (some (-1)) none = sign1 c := by
  unfold cutS
  have h2 : (s ++ sign1 c).length = s.length + 1 := app_len _ _
  have e1 : HT.sIx (s ++ sign1 c).length 0 (some (-1)) = s.length := by
    rw [h2]
    show (if (-1 : Int) < 0 then ((-1 : Int) + ((s.length + 1 : Nat) : Int)).toNat else min (Int.toNat (-1)) (s.length + 1)) = _
    rw [if_pos (by decide)]
    omega
  rw [e1, HT.sIx_none, h2, app_cps]
  refine str_ext ?_
  have e2 : s.length = s.cps.toList.length := (Array.length_toList).symm
  rw [e2, List.drop_left, ← e2]
  show (List.take (s.length + 1 - s.length) [signZ.cps.getD (c % 36) 0]) = _
  rw [Nat.add_sub_cancel_left]
  rfl
/-! ### rising rows -/
theorem lt_of_le_ne {a b : Str} (h : leS a b = true) (n : a ≠ b) : ltS a b = true := by
  have h1 : a.cps.toList ≤ b.cps.toList := of_decide_eq_true h
  refine decide_eq_true ?_
  rcases Classical.em (a.cps.toList < b.cps.toList) with h2 | h2
  · exact h2
  · exact absurd (str_ext (List.le_antisymm h1 h2)) n
theorem ascS_pw : ∀ {zs : List Str}, zs.Pairwise (fun x y => ltS x y = true) → ascS zs = true
  | [], _ => rfl
  | [_], _ => rfl
  | a :: b :: zs, h => by
    have h1 := (List.pairwise_cons.mp h).1 b List.mem_cons_self
    have h2 := ascS_pw (List.pairwise_cons.mp h).2
    show (ltS a b && (((b :: zs).zip zs).all fun p => ltS p.1 p.2)) = true
    rw [h1, Bool.true_and]
    exact h2
theorem asc_sort {L : List Str} (h : L.Nodup) : ascS (sortS L) = true := by
  refine ascS_pw ?_
  have h1 := sortS_sorted L
  have h2 : (sortS L).Nodup := (sortS_perm L).nodup_iff.mpr h
  exact (List.Pairwise.and h1 h2).imp fun z => lt_of_le_ne z.1 z.2
/-! ### members -/
def memD (n : Str) (ds ns : List Str) : PyData := .tuple [.str n, strsD ds, strsD ns]
theorem namesD_strs (zs : List Str) : namesD (zs.map PyData.str) = zs := by
  induction zs with
  | nil => rfl
  | cons z zs ih => show z :: namesD (zs.map PyData.str) = _; rw [ih]
theorem syms_mk {zs : List Str} {lo hi : Int} (h1 : lo ≤ (zs.length : Nat)) (h2 : (zs.length : Nat) ≤ hi) (h3 : zs.all isNameS = true) (h4 : ascS zs = true) : areSymsL (zs.map PyData.str) lo hi = true := by
  unfold areSymsL
  rw [List.length_map, decide_eq_true h1, decide_eq_true h2, namesD_strs, h4, List.all_map]
  have e : (isNameD ∘ PyData.str) = isNameS := rfl
  rw [e, h3]
  rfl
theorem isMember_mk {n : Str} {ds ns : List Str} (h1 : isNameS n = true) (h2 : 1 ≤ ds.length) (h3 : ds.length ≤ 6) (h4 : ds.all isNameS = true) (h5 : ascS ds = true) (h6 : ns.length ≤ 8) (h7 : ns.all isNameS = true) (h8 : ascS ns = true) : isMemberD (memD n ds ns) = true := by
  show (isNameS n && (areSymsL (ds.map PyData.str) 1 6 && areSymsL (ns.map PyData.str) 0 8)) = true
  rw [h1, syms_mk (by omega) (by omega) h4 h5, syms_mk (by omega) (by omega) h7 h8]
  rfl
/-! ### members sorted -/
theorem le_names {x y : PyData} (hx : Sh0 x) (hy : Sh0 y) (h : PySem.W.dataLe false (fun d => d) x y = true) (n : nm0 x ≠ nm0 y) : ltS (nm0 x) (nm0 y) = true := by
  obtain ⟨a, r, rfl⟩ := hx
  obtain ⟨b, s, rfl⟩ := hy
  have h1 : (!PySem.W.dataLt (.tuple (.str b :: s)) (.tuple (.str a :: r))) = true := h
  rw [PySem.W.dataLt_tuple, PySem.W.dataLt_cons (x := .str b) (y := .str a) (by simp [PySem.W.alike])] at h1
  have n1 : a ≠ b := n
  have e : PyData.eqv (.str b) (.str a) = false := by
    show (b == a) = false
    rw [beq_eq_false_iff_ne]
    exact fun z => n1 z.symm
  rw [e, if_neg (by decide), PySem.W.dataLt_str] at h1
  refine lt_of_le_ne (decide_eq_true fun z => ?_) n1
  have z1 : b.cps.toList < a.cps.toList := z
  rw [decide_eq_true z1] at h1
  cases h1
theorem asc_members {ds : List PyData} (hs : ∀ d ∈ ds, Sh0 d) (hn : (ds.map nm0).Nodup) : ascS ((sortDs ds).map nm0) = true := by
  refine ascS_pw (List.Pairwise.map _ (fun x y z => z) ?_)
  have h1 := sortDs_pw ds
  have hp := sortDs_perm ds
  have h2 : ((sortDs ds).map nm0).Nodup := (hp.map nm0).nodup_iff.mpr hn
  have h3 : (sortDs ds).Pairwise fun x y => nm0 x ≠ nm0 y := List.pairwise_map.mp h2
  have h4 := List.Pairwise.and h1 h3
  refine List.Pairwise.imp_of_mem ?_ h4
  intro x y hx hy z
  exact le_names (hs x (hp.mem_iff.mp hx)) (hs y (hp.mem_iff.mp hy)) z.1 z.2
/-! ### archives -/
def arcD (r : Str) (ds : List PyData) : PyData := .tuple [.str r, .tuple (sortDs ds)]
theorem isArchive_mk {r : Str} {ds : List PyData} (h1 : isNameS r = true) (h2 : ds.all isMemberD = true) (h3 : (ds.map nm0).Nodup) : isArchiveD (arcD r ds) = true := by
  have hp := sortDs_perm ds
  have h4 : (sortDs ds).all isMemberD = true := by
    rw [List.all_eq_true] at h2 ⊢
    exact fun d hd => h2 d (hp.mem_iff.mp hd)
  have hs : ∀ d ∈ ds, Sh0 d := fun d hd => by
    obtain ⟨z, x, y, rfl, _⟩ := isMember_sh (List.all_eq_true.mp h2 d hd)
    exact ⟨z, _, rfl⟩
  show (isNameS r && ((sortDs ds).all isMemberD && ascS ((sortDs ds).map nm0))) = true
  rw [h1, h4, asc_members hs h3]
  rfl
theorem nodup_diff : ∀ {zs L : List Str}, (L ++ zs).Nodup → zs.foldl ins L = L ++ zs
  | [], L, _ => by rw [List.append_nil]; rfl
  | z :: zs, L, h => by
    have h1 : z ∉ L := fun hz => by
      rw [List.nodup_append] at h
      exact h.2.2 z hz z List.mem_cons_self rfl
    have h2 : ins L z = L ++ [z] := if_neg h1
    have h3 : ((L ++ [z]) ++ zs).Nodup := by
      rw [List.append_assoc]
      exact h
    rw [List.foldl_cons, h2, nodup_diff h3, List.append_assoc]
    rfl
theorem diffS_of {zs : List Str} (h : zs.Nodup) : diffS zs = true := by
  unfold diffS firsts
  rw [nodup_diff (L := []) h]
  exact decide_eq_true rfl
/-- archives made of rooms and lots -/
def arcsOf : List Str → List (List PyData) → List PyData
  | r :: rs, l :: ls => arcD r l :: arcsOf rs ls
  | _, _ => []
theorem arcsOf_names : ∀ {rs : List Str} {ls : List (List PyData)}, rs.length = ls.length → (arcsOf rs ls).map nm0 = rs
  | [], [], _ => rfl
  | r :: rs, l :: ls, h => by
    show r :: (arcsOf rs ls).map nm0 = _
    rw [arcsOf_names (Nat.succ.inj h)]
theorem arcsOf_len : ∀ {rs : List Str} {ls : List (List PyData)}, rs.length = ls.length → (arcsOf rs ls).length = rs.length
  | [], [], _ => rfl
  | r :: rs, l :: ls, h => congrArg (· + 1) (arcsOf_len (Nat.succ.inj h))
theorem arcsOf_mems : ∀ {rs : List Str} {ls : List (List PyData)}, rs.length = ls.length → ((arcsOf rs ls).flatMap it1).Perm ls.flatten
  | [], [], _ => List.Perm.refl _
  | r :: rs, l :: ls, h => by
    show (sortDs l ++ (arcsOf rs ls).flatMap it1).Perm (l ++ ls.flatten)
    exact (sortDs_perm l).append (arcsOf_mems (Nat.succ.inj h))
theorem arcsOf_all : ∀ {rs : List Str} {ls : List (List PyData)}, rs.length = ls.length → rs.all isNameS = true → ls.flatten.all isMemberD = true → (ls.flatten.map nm0).Nodup → (arcsOf rs ls).all isArchiveD = true
  | [], [], _, _, _, _ => rfl
  | r :: rs, l :: ls, h, h1, h2, h3 => by
    rw [List.all_cons, Bool.and_eq_true] at h1
    rw [List.flatten_cons, List.all_append, Bool.and_eq_true] at h2
    rw [List.flatten_cons, List.map_append, List.nodup_append] at h3
    show (isArchiveD (arcD r l) && (arcsOf rs ls).all isArchiveD) = true
    rw [isArchive_mk h1.1 h2.1 h3.1, arcsOf_all (Nat.succ.inj h) h1.2 h2.2 h3.2.1]
    rfl
theorem archives_ok {rs : List Str} {ls : List (List PyData)} {ms : List PyData} (hl : rs.length = ls.length) (h8 : rs.length ≤ 8) (h1 : rs.all isNameS = true) (h2 : ascS rs = true) (hp : ls.flatten.Perm ms) (h3 : ms.all isMemberD = true) (h4 : (ms.map nm0).Nodup) (h5 : (ms.flatMap fun m => namesD (it1 m)).Nodup) (h6 : ms.length ≤ 24) : areArchivesL (arcsOf rs ls) = true := by
  have q1 : ls.flatten.all isMemberD = true := by
    rw [List.all_eq_true] at h3 ⊢
    exact fun d hd => h3 d (hp.mem_iff.mp hd)
  have q2 : (ls.flatten.map nm0).Nodup := (hp.map nm0).nodup_iff.mpr h4
  have pm := (arcsOf_mems hl).trans hp
  unfold areArchivesL
  rw [arcsOf_len hl, decide_eq_true h8, arcsOf_all hl h1 q1 q2, arcsOf_names hl, h2, pm.length_eq, decide_eq_true h6]
  rw [diffS_of ((pm.map nm0).nodup_iff.mpr h4)]
  rw [diffS_of]
  · rfl
  · rw [← names_flat, ← List.flatMap_def]
    exact (pm.flatMap_right _).nodup_iff.mpr h5
end LK
namespace LK
open PySem PySem.Spec PyProof.Rows L2
theorem for_enumL {K : PySem.W.Frag} {a : Addr} {xs : List V} {g : TG} {tb : TS} {D : Ends} {σ : L2.St} {H : Hp} (Pv : Nat → L2.St → Hp → Prop) (h0 : Pv 0 σ H) (hl : ∀ i σ H, i ≤ xs.length → Pv i σ H → SqL K H a xs)
    (hs : ∀ i x σ H T, xs[i]? = some x → Pv i σ H → H T = none → g (.ref T) σ (upd H T (.tup [.int (i : Nat), x])) fun σ2 H2 => tb { D with nx := Pv (i + 1), ct := Pv (i + 1), bk := D.nx } σ2 H2) (hd : ∀ σ H, Pv xs.length σ H → D.nx σ H) :
    tFor (fun _ H0 R => R (Ite K a) H0) g tb D σ H := by
  refine ⟨fun i m σ H => m = xs.length - i ∧ i ≤ xs.length ∧ Pv i σ H, ⟨xs.length, by simp, Nat.zero_le _, h0⟩, ?_⟩
  rintro i m σ H ⟨rfl, hi, p⟩
  have q := hl i σ H hi p
  by_cases hlt : i < xs.length
  · refine .inr ⟨⟨xs, xs[i], q, List.getElem?_eq_getElem hlt⟩, Pv (i + 1), fun σ1 H1 p1 => ⟨xs.length - (i + 1), by omega, rfl, hlt, p1⟩, fun x H1 y => ?_⟩
    obtain ⟨T, z, rfl, nT, rfl, f⟩ := y
    exact hs i z σ H T (f xs q) p nT
  · have e : i = xs.length := by omega
    subst e
    exact .inl ⟨⟨xs, q, Nat.le_refl _⟩, hd σ H p⟩

/-! ### the symbols of drawn members -/
def lastS (z : Str) : Str := cutS z (some (-1)) none
def symsOf (first z : Str) (b : Bool) : List Str := sortS ([first ++ lastS z] ++ (if b = true then [("two" : Str) ++ lastS z] else []))
theorem head_first {first : Str} (h : first ∈ ([("s" : Str), "def", "sy"])) (s t : Str) : first ++ s ≠ ("two" : Str) ++ t := fun e => by
  have h1 : ∀ f ∈ ([("s" : Str), "def", "sy"]), (f.cps.toList.head? = some 115 ∨ f.cps.toList.head? = some 100) := by decide +kernel
  have h2 : ("two" : Str).cps.toList.head? = some 116 := by decide +kernel
  have h3 := congrArg (fun z : Str => z.cps.toList.head?) e
  simp only [app_cps, List.head?_append, h2] at h3
  rcases h1 first h with z | z
  · rw [z] at h3
    cases h3
  · rw [z] at h3
    cases h3
theorem mem_syms_of {first z x : Str} {b : Bool} (h : x ∈ symsOf first z b) : x = first ++ lastS z ∨ x = ("two" : Str) ++ lastS z := by
  have h1 := (sortS_perm _).mem_iff.mp h
  rcases List.mem_append.mp h1 with e | e
  · exact .inl (List.mem_singleton.mp e)
  · cases b with
    | false => cases e
    | true => exact .inr (List.mem_singleton.mp e)
theorem syms_self {first z : Str} {b : Bool} (hf : first ∈ ([("s" : Str), "def", "sy"])) : (symsOf first z b).Nodup ∧ 1 ≤ (symsOf first z b).length ∧ (symsOf first z b).length ≤ 2 := by
  have hp := sortS_perm ([first ++ lastS z] ++ (if b = true then [("two" : Str) ++ lastS z] else []))
  refine ⟨hp.nodup_iff.mpr ?_, ?_, ?_⟩
  · cases b with
    | false => simp
    | true =>
      rw [if_pos rfl]
      refine List.nodup_cons.mpr ⟨fun h => ?_, List.nodup_cons.mpr ⟨fun h => (nomatch h), List.nodup_nil⟩⟩
      exact head_first hf _ _ (List.mem_singleton.mp h)
  · show 1 ≤ (sortS _).length
    rw [hp.length_eq]
    cases b <;> simp
  · show (sortS _).length ≤ 2
    rw [hp.length_eq]
    cases b <;> simp
theorem syms_nodup {first stem : Str} (hf : first ∈ ([("s" : Str), "def", "sy"])) : ∀ {info : List (Str × Bool × List Str)}, (info.map (·.1)).Nodup → (∀ e ∈ info, ∃ c, e.1 = stem ++ sign1 c) → (info.flatMap fun e => symsOf first e.1 e.2.1).Nodup
  | [], _, _ => List.nodup_nil
  | e :: info, h1, h2 => by
    rw [List.map_cons, List.nodup_cons] at h1
    have ih := syms_nodup hf h1.2 fun x hx => h2 x (List.mem_cons_of_mem _ hx)
    rw [List.flatMap_cons, List.nodup_append]
    refine ⟨(syms_self hf).1, ih, fun x hx y hy exy => ?_⟩
    subst exy
    obtain ⟨g, hg, hy⟩ := List.mem_flatMap.mp hy
    obtain ⟨c, ec⟩ := h2 e List.mem_cons_self
    obtain ⟨d, ed⟩ := h2 g (List.mem_cons_of_mem _ hg)
    have ne : e.1 ≠ g.1 := fun z => h1.1 (List.mem_map.mpr ⟨g, hg, z.symm⟩)
    have l1 : lastS e.1 = sign1 c := by rw [ec]; exact last_sign _ _
    have l2 : lastS g.1 = sign1 d := by rw [ed]; exact last_sign _ _
    have key : sign1 c ≠ sign1 d := fun z => ne (by rw [ec, ed, z])
    rcases mem_syms_of hx with e1 | e1 <;> rcases mem_syms_of hy with e2 | e2
    · rw [e1, l1, l2] at e2
      exact key (app_inj e2)
    · rw [e1] at e2
      exact head_first hf _ _ e2
    · rw [e1] at e2
      exact head_first hf _ _ e2.symm
    · rw [e1, l1, l2] at e2
      exact key (app_inj e2)
theorem lastS_name {stem : Str} (c : Nat) : lastS (stem ++ sign1 c) = sign1 c := last_sign _ _
theorem syms_names {first stem z : Str} {b : Bool} (hf : first ∈ ([("s" : Str), "def", "sy"])) (hz : ∃ c, z = stem ++ sign1 c) : (symsOf first z b).all isNameS = true := by
  obtain ⟨c, rfl⟩ := hz
  rw [List.all_eq_true]
  intro x hx
  have h1 : ∀ f ∈ ([("s" : Str), "def", "sy", "two"]), stemOk f = true := by decide +kernel
  rcases mem_syms_of hx with e | e
  · rw [e, lastS_name]
    exact name_good (h1 first (by simp only [List.mem_cons] at hf ⊢; rcases hf with z | z | z | z <;> simp_all)) c
  · rw [e, lastS_name]
    exact name_good (h1 _ (by simp)) c
/-- the needs that are kept -/
def nds8 (ys : List Str) : List Str := (sortS (firsts ys)).take 8
theorem nds8_ok {ys : List Str} (h : ys.all isNameS = true) : (nds8 ys).length ≤ 8 ∧ (nds8 ys).all isNameS = true ∧ ascS (nds8 ys) = true := by
  refine ⟨by unfold nds8; rw [List.length_take]; omega, ?_, ?_⟩
  · rw [List.all_eq_true] at h ⊢
    exact fun x hx => h x (mem_firsts.mp ((sortS_perm _).mem_iff.mp (List.mem_of_mem_take hx)))
  · refine ascS_pw (List.Pairwise.sublist (List.take_sublist _ _) ?_)
    have h2 : (firsts ys).Nodup := by
      unfold firsts
      have z : ∀ (zs L : List Str), L.Nodup → (zs.foldl ins L).Nodup := by
        intro zs
        induction zs with
        | nil => exact fun L h => h
        | cons a zs ih => exact fun L h => ih _ (ins_nodup h)
      exact z ys [] List.nodup_nil
    have h3 := sortS_sorted (firsts ys)
    have h4 : (sortS (firsts ys)).Nodup := (sortS_perm _).nodup_iff.mpr h2
    exact (List.Pairwise.and h3 h4).imp fun z => lt_of_le_ne z.1 z.2
def mkM (first : Str) (e : Str × Bool × List Str) : PyData := memD e.1 (symsOf first e.1 e.2.1) (nds8 e.2.2)
theorem mkM_ok {first stem : Str} {e : Str × Bool × List Str} (hf : first ∈ ([("s" : Str), "def", "sy"])) (so : stemOk stem = true) (hz : ∃ c, e.1 = stem ++ sign1 c) (hn : e.2.2.all isNameS = true) : isMemberD (mkM first e) = true := by
  obtain ⟨n1, n2, n3⟩ := syms_self (z := e.1) (b := e.2.1) hf
  obtain ⟨m1, m2, m3⟩ := nds8_ok hn
  refine isMember_mk ?_ n2 (by omega) (syms_names hf hz) (asc_sort ?_) m1 m2 m3
  · obtain ⟨c, ec⟩ := hz
    rw [ec]
    exact name_good so c
  · exact (sortS_perm _).nodup_iff.mp n1
theorem alike_strA : ∀ (xs ys : List Str), PySem.W.alikeAll (xs.map PyData.str) (ys.map PyData.str) = true
  | [], _ => by simp [PySem.W.alikeAll]
  | _ :: _, [] => by simp [PySem.W.alikeAll]
  | x :: xs, y :: ys => by
    have h := alike_strA xs ys
    simp only [List.map_cons, PySem.W.alikeAll, PySem.W.alike, Bool.true_and]
    exact h
theorem alike_members {x y : PyData} (hx : isMemberD x = true) (hy : isMemberD y = true) : PySem.W.alike x y = true := by
  obtain ⟨z, ds, ns, rfl, _, h1, h2⟩ := isMember_sh hx
  obtain ⟨w, es, ms, rfl, _, h3, h4⟩ := isMember_sh hy
  have a1 := alike_strA (namesD ds) (namesD es)
  have a2 := alike_strA (namesD ns) (namesD ms)
  rw [← (syms_facts h1).1, ← (syms_facts h3).1] at a1
  rw [← (syms_facts h2).1, ← (syms_facts h4).1] at a2
  simp only [PySem.W.alike, PySem.W.alikeAll, a1, a2, Bool.and_self]
theorem members_sortable {ds : List PyData} (h : ds.all isMemberD = true) : PySem.W.AllAlike ds ∧ PySem.W.Sortable ds ∧ ∀ d ∈ ds, d.depth ≤ 40 := by
  rw [List.all_eq_true] at h
  refine ⟨fun x hx y hy => alike_members (h x hx) (h y hy), .inl fun d hd => ?_, fun d hd => ?_⟩
  · obtain ⟨z, ds, ns, rfl, _⟩ := isMember_sh (h d hd)
    exact ⟨_, _, rfl⟩
  · obtain ⟨z, ds, ns, rfl, _, h1, h2⟩ := isMember_sh (h d hd)
    show max 0 (max (PyData.depthAll ds + 1) (max (PyData.depthAll ns + 1) 0)) + 1 ≤ 40
    rw [(syms_facts h1).1, (syms_facts h2).1, depth_strs, depth_strs]
    decide
/-! ### how much a library is -/
theorem name_len {z : Str} (h : isNameS z = true) : z.length ≤ 8 := by
  unfold isNameS at h
  simp only [Bool.and_eq_true] at h
  exact of_decide_eq_true h.2.1
theorem sz_names : ∀ {zs : List Str}, zs.all isNameS = true → szL (zs.map PyData.str) ≤ 9 * zs.length
  | [], _ => Nat.le_refl _
  | z :: zs, h => by
    rw [List.all_cons, Bool.and_eq_true] at h
    have h1 := name_len h.1
    have h2 := sz_names h.2
    show (z.length + 1) + szL (zs.map PyData.str) ≤ 9 * (zs.length + 1)
    omega
theorem sz_member {m : PyData} (h : isMemberD m = true) : szD m ≤ 150 := by
  obtain ⟨z, ds, ns, rfl, h0, h1, h2⟩ := isMember_sh h
  obtain ⟨e1, l1, _, k1⟩ := syms_facts h1
  obtain ⟨e2, l2, _, k2⟩ := syms_facts h2
  have a1 := sz_names k1
  have a2 := sz_names k2
  rw [← e1] at a1
  rw [← e2] at a2
  have a0 := name_len h0
  show ((z.length + 1) + ((szL ds + 1) + ((szL ns + 1) + 0))) + 1 ≤ 150
  omega
theorem sz_members : ∀ {ms : List PyData}, ms.all isMemberD = true → szL ms ≤ 150 * ms.length
  | [], _ => Nat.le_refl _
  | m :: ms, h => by
    rw [List.all_cons, Bool.and_eq_true] at h
    have h1 := sz_member h.1
    have h2 := sz_members h.2
    show szD m + szL ms ≤ 150 * (ms.length + 1)
    omega
theorem sz_arcs : ∀ {as : List PyData}, as.all isArchiveD = true → szL as ≤ 11 * as.length + 150 * (as.flatMap it1).length
  | [], _ => Nat.zero_le _
  | a :: as, h => by
    rw [List.all_cons, Bool.and_eq_true] at h
    obtain ⟨z, ms, rfl, h0, h1, _⟩ := isArchive_sh h.1
    have a1 := sz_members h1
    have a2 := sz_arcs h.2
    have a0 := name_len h0
    rw [List.flatMap_cons, List.length_append, List.length_cons]
    show (((z.length + 1) + ((szL ms + 1) + 0)) + 1) + szL as ≤ 11 * (as.length + 1) + 150 * (ms.length + _)
    omega
theorem sz_arch {as : List PyData} (h : areArchivesL as = true) : szL as ≤ 4000 := by
  obtain ⟨h1, h2, _, h4, _⟩ := arch_facts h
  have h3 := sz_arcs h1
  omega
/-! ### lots -/
def LotsAt (H : Hp) (d : Addr) (rooms : List Str) (L : List (Addr × List PyData)) : Prop := H d = some (.dK (KVs (rooms.zip (L.map fun p => V.ref p.1)))) ∧ rooms.length = L.length ∧ (L.map (·.1)).Nodup ∧ ∀ (j : Nat) (q : Addr) (ds : List PyData), L[j]? = some (q, ds) → ∃ us, H q = some (.lst us) ∧ DrAll H us ds ∧ flatA ds = true
theorem mergeK_new : ∀ {es L : List (Str × V)}, ((L ++ es).map (·.1)).Nodup → mergeK (KVs L) (KVs es) = KVs (L ++ es)
  | [], L, _ => by rw [List.append_nil]; rfl
  | e :: es, L, h => by
    have h1 : e.1 ∉ L.map (·.1) := fun hm => by
      rw [List.map_append, List.nodup_append] at h
      exact h.2.2 _ hm _ (by rw [List.map_cons]; exact List.mem_cons_self) rfl
    have h2 : (((L ++ [e]) ++ es).map (·.1)).Nodup := by
      rw [List.append_assoc]
      exact h
    show mergeK (putK (KVs L) (Sum.inr e.1) e.2) (KVs es) = _
    rw [putK_new h1, mergeK_new h2, List.append_assoc]
    rfl
theorem zip_keys {rooms : List Str} {vs : List V} (h : rooms.length = vs.length) : (rooms.zip vs).map (·.1) = rooms := List.map_fst_zip (Nat.le_of_eq h)
theorem zip_at {rooms : List Str} {vs : List V} {j : Nat} {r : Str} {v : V} (h1 : rooms[j]? = some r) (h2 : vs[j]? = some v) : (rooms.zip vs)[j]? = some (r, v) := List.getElem?_zip_eq_some.mpr ⟨h1, h2⟩
section
variable {H H1 : Hp} {d a : Addr} {rooms : List Str} {L : List (Addr × List PyData)}
theorem LotsAt.look (h : LotsAt H d rooms L) (nd : rooms.Nodup) {j : Nat} {r : Str} {q : Addr} {ds : List PyData} (h1 : rooms[j]? = some r) (h2 : L[j]? = some (q, ds)) : valV (KVs (rooms.zip (L.map fun p => V.ref p.1))) (Sum.inr r) = some (.ref q) := by
  have hl : rooms.length = (L.map fun p => V.ref p.1).length := by rw [List.length_map]; exact h.2.1
  rw [valV_KVs]
  exact lookup_at (es := rooms.zip (L.map fun p => V.ref p.1)) (by rw [zip_keys hl]; exact nd) (zip_at h1 (by rw [List.getElem?_map, h2]; rfl))
theorem LotsAt.mono (h : LotsAt H d rooms L) (s : Same H H1) : LotsAt H1 d rooms L := by
  obtain ⟨h1, h2, h3, h4⟩ := h
  refine ⟨s _ _ h1, h2, h3, fun j q ds e => ?_⟩
  obtain ⟨us, g1, g2, g3⟩ := h4 j q ds e
  exact ⟨us, s _ _ g1, g2.mono s, g3⟩
theorem LotsAt.sab {xs : List V} (h : LotsAt H d rooms L) (s : Sab a H H1) (ha : H a = some (.lst xs)) (hd : d ≠ a) (hq : ∀ p ∈ L, p.1 ≠ a) : LotsAt H1 d rooms L := by
  obtain ⟨h1, h2, h3, h4⟩ := h
  refine ⟨s _ _ hd h1, h2, h3, fun j q ds e => ?_⟩
  obtain ⟨us, g1, g2, g3⟩ := h4 j q ds e
  exact ⟨us, s _ _ (hq _ (List.mem_of_getElem? e)) g1, g2.tups (sab_tups ha s) g3, g3⟩
theorem nodup_inj {α : Type} {l : List α} {i j : Nat} {x : α} (h : l.Nodup) (h1 : l[i]? = some x) (h2 : l[j]? = some x) : i = j := by
  obtain ⟨l1, e1⟩ := List.getElem?_eq_some_iff.mp h1
  obtain ⟨l2, e2⟩ := List.getElem?_eq_some_iff.mp h2
  have h3 := List.pairwise_iff_getElem.mp h
  rcases Nat.lt_trichotomy i j with z | z | z
  · exact absurd (e1.trans e2.symm) (h3 i j l1 l2 z)
  · exact z
  · exact absurd (e2.trans e1.symm) (h3 j i l2 l1 z)
theorem set_get {α : Type} {l : List α} {i j : Nat} {x y : α} (h : (l.set i x)[j]? = some y) : (i = j ∧ y = x) ∨ (i ≠ j ∧ l[j]? = some y) := by
  by_cases e : i = j
  · subst e
    rw [List.getElem?_set] at h
    simp only [↓reduceIte] at h
    split at h
    · cases h
      exact .inl ⟨rfl, rfl⟩
    · cases h
  · rw [List.getElem?_set_ne e] at h
    exact .inr ⟨e, h⟩
theorem map_set_fst {L : List (Addr × List PyData)} {j : Nat} {q : Addr} {ds es : List PyData} (h : L[j]? = some (q, ds)) : (L.set j (q, es)).map (·.1) = L.map (·.1) := by
  rw [List.map_set]
  refine List.ext_getElem? fun i => ?_
  by_cases e : j = i
  · subst e
    have lt : j < L.length := (List.getElem?_eq_some_iff.mp h).1
    rw [List.getElem?_set_self (by rw [List.length_map]; exact lt), List.getElem?_map, h]
    rfl
  · rw [List.getElem?_set_ne e]
theorem flat_set : ∀ {L : List (Addr × List PyData)} {j : Nat} {q : Addr} {ds : List PyData} {x : PyData}, L[j]? = some (q, ds) → ((L.set j (q, ds ++ [x])).map (·.2)).flatten.Perm ((L.map (·.2)).flatten ++ [x])
  | p :: L, 0, q, ds, x, h => by
    cases h
    show ((ds ++ [x]) ++ (L.map (·.2)).flatten).Perm ((ds ++ (L.map (·.2)).flatten) ++ [x])
    rw [List.append_assoc, List.append_assoc]
    exact List.Perm.append_left ds List.perm_append_comm
  | p :: L, j + 1, q, ds, x, h => by
    have h1 := flat_set (L := L) (j := j) (x := x) h
    show (p.2 ++ ((L.set j (q, ds ++ [x])).map (·.2)).flatten).Perm ((p.2 ++ (L.map (·.2)).flatten) ++ [x])
    rw [List.append_assoc]
    exact List.Perm.append_left _ h1
theorem LotsAt.add {j : Nat} {q : Addr} {ds : List PyData} {us : List V} {t : V} {x : PyData} (h : LotsAt H d rooms L) (hj : L[j]? = some (q, ds)) (hq : H q = some (.lst us)) (hu : DrAll H us ds) (ht : Dr H t x) (hx : flatD x = true) :
    LotsAt (upd H q (.lst (us ++ [t]))) d rooms (L.set j (q, ds ++ [x])) := by
  obtain ⟨h1, h2, h3, h4⟩ := h
  have nd : d ≠ q := ne_of h1 hq (by intro z; cases z)
  have e1 := map_set_fst (es := ds ++ [x]) hj
  have st := sab_tups (H1 := upd H q (.lst (us ++ [t]))) hq Sab.refl.upd
  have flatS : ∀ {as : List PyData}, flatA as = true → flatA (as ++ [x]) = true := by
    intro as
    induction as with
    | nil => intro _; show (flatD x && true) = true; rw [hx]; rfl
    | cons a as ih =>
      intro f
      have f2 := Bool.and_eq_true_iff.mp f
      show (flatD a && flatA (as ++ [x])) = true
      rw [f2.1, ih f2.2]
      rfl
  obtain ⟨us0, g1, g2, g3⟩ := h4 j q ds hj
  refine ⟨?_, by rw [List.length_set]; exact h2, by rw [e1]; exact h3, fun i p es e => ?_⟩
  · rw [upd_ne nd, h1]
    have e2 : (L.set j (q, ds ++ [x])).map (fun p => V.ref p.1) = L.map (fun p => V.ref p.1) := by
      have z : ∀ M : List (Addr × List PyData), M.map (fun p => V.ref p.1) = (M.map (·.1)).map V.ref := fun M => by rw [List.map_map]; rfl
      rw [z, z, e1]
    rw [e2]
  · rcases set_get e with ⟨_, e2⟩ | ⟨ne, e2⟩
    · cases e2
      exact ⟨us ++ [t], upd_same, (hu.snoc ht).tups st (flatS g3), flatS g3⟩
    · obtain ⟨vs, k1, k2, k3⟩ := h4 i p es e2
      have npq : p ≠ q := fun z => by
        have a1 : (L.map (·.1))[i]? = some q := by rw [List.getElem?_map, e2, z]; rfl
        have a2 : (L.map (·.1))[j]? = some q := by rw [List.getElem?_map, hj]; rfl
        exact ne (nodup_inj h3 a2 a1)
      exact ⟨vs, by rw [upd_ne npq]; exact k1, k2.tups st k3, k3⟩
end
end LK
namespace LK
open PySem PySem.Spec PyProof.Rows L2

abbrev sArc : Stmt := topS 26
theorem scArc : FnScope ["_law_well_here", "_law_most", "_law_rooms", "_law_members", "_law_rooms_named", "_law_way", "_law_first", "_law_order", "_law_symbols", "_law_name", "_law_lots", "_law_at", "_law_defines", "_law_needs_here"] ["_law_well_here", "_law_most", "_law_rooms"] (defScope sArc) := ⟨rfl, rfl, rfl, by decide +kernel, rfl, by decide +kernel, by decide +kernel⟩
def spArc : Sp := fun vs H Q _ => ∃ (a : Addr) (N m r : Nat), vs = [.ref a, .int (m : Nat), .int (r : Nat)] ∧ WellAt H a N ∧ N ≤ 2 ^ 38 ∧ m ≤ 24 ∧ 1 ≤ r ∧ r ≤ 8 ∧
  ∀ (as : List PyData) (u : V) (H2 : Hp), areArchivesL as = true → szL as ≤ 100000 → (as.flatMap it1).length ≤ m → (srcOf (as.flatMap it1)).length ≤ 2 * m → Sab a H H2 → WellAt H2 a (N + 1000) → Dr H2 u (.tuple as) → Q u H2
/-- as spArc, with how many archives there are -/
def spArc1 : Sp := fun vs H Q _ => ∃ (a : Addr) (N m r : Nat), vs = [.ref a, .int (m : Nat), .int (r : Nat)] ∧ WellAt H a N ∧ N ≤ 2 ^ 38 ∧ m ≤ 24 ∧ 1 ≤ r ∧ r ≤ 8 ∧
  ∀ (as : List PyData) (u : V) (H2 : Hp), areArchivesL as = true → szL as ≤ 100000 → (as.flatMap it1).length ≤ m → (srcOf (as.flatMap it1)).length ≤ 2 * m → 1 ≤ as.length ∧ as.length ≤ r → Sab a H H2 → WellAt H2 a (N + 1000) → Dr H2 u (.tuple as) → Q u H2
/-- a drawn name or symbol: a stem and one sign -/
def Drawn (z : Str) : Prop := ∃ stem ∈ ([("" : Str), "m", "x7", "longish", "s", "def", "sy", "two"]), ∃ t : Str, t.length = 1 ∧ z = stem ++ t
def spArc2 : Sp := fun vs H Q _ => ∃ (a : Addr) (N m r : Nat), vs = [.ref a, .int (m : Nat), .int (r : Nat)] ∧ WellAt H a N ∧ N ≤ 2 ^ 38 ∧ m ≤ 24 ∧ 1 ≤ r ∧ r ≤ 8 ∧
  ∀ (as : List PyData) (u : V) (H2 : Hp), areArchivesL as = true → szL as ≤ 100000 → (as.flatMap it1).length ≤ m → (srcOf (as.flatMap it1)).length ≤ 2 * m → 1 ≤ as.length ∧ as.length ≤ r → (∀ m ∈ as.flatMap it1, Drawn (nm0 m) ∧ ∀ s ∈ namesD (it1 m), Drawn s) → Sab a H H2 → WellAt H2 a (N + 1000) → Dr H2 u (.tuple as) → Q u H2
/-- as spArc2, with where the needs come from -/
def spArc3 : Sp := fun vs H Q _ => ∃ (a : Addr) (N m r : Nat), vs = [.ref a, .int (m : Nat), .int (r : Nat)] ∧ WellAt H a N ∧ N ≤ 2 ^ 38 ∧ m ≤ 24 ∧ 1 ≤ r ∧ r ≤ 8 ∧
  ∀ (as : List PyData) (u : V) (H2 : Hp), areArchivesL as = true → szL as ≤ 100000 → (as.flatMap it1).length ≤ m → (srcOf (as.flatMap it1)).length ≤ 2 * m → 1 ≤ as.length ∧ as.length ≤ r → (∀ m ∈ as.flatMap it1, Drawn (nm0 m) ∧ ∀ s ∈ namesD (it1 m), Drawn s) → (∃ Sy : List Str, Sy.length ≤ m ∧ (∀ s ∈ Sy, ∃ x ∈ as.flatMap it1, s ∈ namesD (it1 x)) ∧ ∀ x ∈ as.flatMap it1, ∀ s ∈ namesD (it2 x), s ∈ Sy ∨ s = "unknown") → Sab a H H2 → WellAt H2 a (N + 1000) → Dr H2 u (.tuple as) → Q u H2
theorem arc2_of (vs : List V) (H : Hp) (Q : VK) (E : XK) (h : spArc2 vs H Q E) : spArc3 vs H Q E := by
  obtain ⟨a, N, m, r, rfl, h1, h2, h3, h4, h5, q⟩ := h
  exact ⟨a, N, m, r, rfl, h1, h2, h3, h4, h5, fun as u H2 k1 k2 k3 k4 k5 k5b _ k6 k7 k8 => q as u H2 k1 k2 k3 k4 k5 k5b k6 k7 k8⟩
theorem arc1_of (vs : List V) (H : Hp) (Q : VK) (E : XK) (h : spArc1 vs H Q E) : spArc2 vs H Q E := by
  obtain ⟨a, N, m, r, rfl, h1, h2, h3, h4, h5, q⟩ := h
  exact ⟨a, N, m, r, rfl, h1, h2, h3, h4, h5, fun as u H2 k1 k2 k3 k4 k5 _ k6 k7 k8 => q as u H2 k1 k2 k3 k4 k5 k6 k7 k8⟩
theorem arc_of (vs : List V) (H : Hp) (Q : VK) (E : XK) (h : spArc vs H Q E) : spArc1 vs H Q E := by
  obtain ⟨a, N, m, r, rfl, h1, h2, h3, h4, h5, q⟩ := h
  exact ⟨a, N, m, r, rfl, h1, h2, h3, h4, h5, fun as u H2 k1 k2 k3 k4 _ k5 k6 k7 => q as u H2 k1 k2 k3 k4 k5 k6 k7⟩
section
variable {P : Program} {w : World} {K : PySem.W.Frag} {mg : Str → Option Value} {base : Heap}
theorem ok_Arc3 {f : Addr} {fd : FuncData} {k : Nat} (F : Fun K "_law_archives" "_law_archives" sArc f fd) (T : Bl mg) (LDraw : Lnk P w K mg base "_law_draw" k ["_law_well_here", "_law_below"] spDrw) (LPick : Lnk P w K mg base "_law_pick" k ["_law_well_here", "_law_some"] spPick)
    (LNms : Lnk P w K mg base "_law_names" k ["_law_well_here", "_law_count", "_law_stems"] spNms) (LMix : Lnk P w K mg base "_law_mixed" k ["_law_well_here", "_law_some"] spMix) (LNds : Lnk P w K mg base "_law_needs" k ["_law_well_here", "_law_symbols", "_law_at", "_law_way"] spNds) : FnOk P w K mg base CX0 (k + 1) f fd ["_law_well_here", "_law_most", "_law_rooms"] spArc3 := by
  refine F.ok scArc (fun vs H Q E h => ?_) (fun cdv A outer s H vs Q E hr h => ?_)
  · obtain ⟨a, N, m, r, rfl, _⟩ := h
    rfl
  · obtain ⟨a, N, m, r, rfl, hw, hN, hm, hr1, hr8, q⟩ := h
    have hu : (A.deeper (envOfC "_law_archives" (defScope sArc) s.heap.objs.size f cdv)).units + 64 < cLine := hr.units
    have hu1 : (A.deeper (envOfC "_law_archives" (defScope sArc) s.heap.objs.size f cdv)).units + 1 < cLine := by omega
    have ksz : 5000 ≤ sizeLine := by decide
    refine ⟨_, (pss_cons (ps_set (i := 3) scArc.nd rfl (Or.inl rfl) (pe_lnk LNms hr rfl (pa_cons (pv 0) (pa_cons (pe_lnk LDraw hr rfl (pa_cons (pv 0) (pa_cons (pe_op op_add (pv 1) pe_int) pa_nil))) (pa_cons (pe_lst (pa_cons pe_str (pa_cons pe_str (pa_cons pe_str (pa_cons pe_str pa_nil))))) pa_nil)))))
      (pss_cons (ps_set (i := 4) scArc.nd rfl (Or.inl rfl) (pe_lnk LNms hr rfl (pa_cons (pv 0) (pa_cons (pe_op op_add pe_int (pe_lnk LDraw hr rfl (pa_cons (pv 0) (pa_cons (pv 2) pa_nil)))) (pa_cons (pe_lst (pa_cons pe_str (pa_cons pe_str (pa_cons pe_str (pa_cons pe_str pa_nil))))) pa_nil)))))
      (pss_cons (ps_asg (pe_tup (pa_cons (pe_lnk LDraw hr rfl (pa_cons (pv 0) (pa_cons pe_int pa_nil))) (pa_cons (pe_lnk LPick hr rfl (pa_cons (pv 0) (pa_cons (pe_lst (pa_cons pe_str (pa_cons pe_str (pa_cons pe_str pa_nil)))) pa_nil))) pa_nil))) (pg_tup rfl (pgs_cons (pg_name (i := 5) scArc.nd rfl (Or.inl rfl)) (pgs_cons (pg_name (i := 6) scArc.nd rfl (Or.inr rfl)) pgs_nil))))
      (pss_cons (ps_set (i := 7) scArc.nd rfl (Or.inl rfl) (pe_lnk LMix hr rfl (pa_cons (pv 0) (pa_cons (pv 3) pa_nil))))
      (pss_cons (ps_setLc (i := 8) (own := [("_law_name", 9)]) rfl scArc.nd rfl rfl (sw_true rfl rfl rfl (by decide +kernel)) (pi_list (pv 7)) (blkOk_by (N := ["_law_well_here", "_law_most", "_law_rooms", "_law_members", "_law_rooms_named", "_law_way", "_law_first", "_law_order", "_law_symbols", "_law_name", "_law_lots", "_law_at", "_law_defines", "_law_needs_here"]) (sc := defScope sArc) (by decide +kernel)) (fun _ _ _ _ _ => (pg_name (i := 9) scArc.nd rfl (Or.inl rfl))) (fun _ _ _ _ _ => pts_nil) (fun _ _ _ _ _ => (pe_op op_add_str (pv 6) (pe_slice sl_str (pv 9) (po_some (pe_un un_neg pe_int)) po_none))))
      (pss_cons (ps_set (i := 10) scArc.nd rfl (Or.inr rfl) (pe_callTy (call_dictP rfl) (by rfl) T.dict (by decide +kernel) (pa_cons (pe_lc (own := [("_law_name", 9)]) rfl scArc.nd (pi_list (pv 4)) (blkOk_by (N := ["_law_well_here", "_law_most", "_law_rooms", "_law_members", "_law_rooms_named", "_law_way", "_law_first", "_law_order", "_law_symbols", "_law_name", "_law_lots", "_law_at", "_law_defines", "_law_needs_here"]) (sc := defScope sArc) (by decide +kernel)) (fun _ _ _ _ _ => (pg_name (i := 9) scArc.nd rfl (Or.inl rfl))) (fun _ _ _ _ _ => pts_nil) (fun _ _ _ _ _ => (pe_tup (pa_cons (pv 9) (pa_cons (pe_lst pa_nil) pa_nil))))) pa_nil)))
      (pss_cons (ps_for PassesOwn.never rfl (pi_enum (by rfl) T.enumerate (pa_cons (pv 7) pa_nil)) (pg_tup rfl (pgs_cons (pg_name (i := 11) scArc.nd rfl (Or.inl rfl)) (pgs_cons (pg_name (i := 9) scArc.nd rfl (Or.inl rfl)) pgs_nil)))
      (pss_cons (ps_set (i := 12) scArc.nd rfl (Or.inl rfl) (pe_op op_cat (pe_lst (pa_cons (pe_ix ix_listH (pv 8) (pv 11) (fun _ _ => rfl)) pa_nil)) (pe_op op_rep (pe_lst (pa_cons (pe_op op_add_str pe_str (pe_slice sl_str (pv 9) (po_some (pe_un un_neg pe_int)) po_none)) pa_nil)) (pe_callTy call_int1 (by rfl) T.int (by decide +kernel) (pa_cons (pe_cmpR op_eq (pe_lnk LDraw hr rfl (pa_cons (pv 0) (pa_cons pe_int pa_nil))) pe_int (nomark _)) pa_nil)))))
      (pss_cons (ps_set (i := 13) scArc.nd rfl (Or.inl rfl) (pe_lnk LNds hr rfl (pa_cons (pv 0) (pa_cons (pv 8) (pa_cons (pv 11) (pa_cons (pv 5) pa_nil))))))
      (pss_one (ps_expr (pe_bm PySem.F.plainAttrs_list PySem.F.slot_list_append PySem.F.type_list_append mt_append (pe_dget hu1 (pv 10) (pe_lnk LPick hr rfl (pa_cons (pv 0) (pa_cons (pv 4) pa_nil))) (fun _ _ => rfl)) (pa_cons (pe_tup (pa_cons (pv 9) (pa_cons (pe_callTy call_tuple_of (by rfl) T.tuple (by decide +kernel) (pa_cons (pe_callB cr_sortedS (by rfl) T.sorted (by decide +kernel) (pa_cons (pv 12) pa_nil)) pa_nil)) (pa_cons (pe_callTy call_tuple_of (by rfl) T.tuple (by decide +kernel) (pa_cons (pe_slice (show L2.SlR _ (rSlL K) from sl_list) (pe_callB (cr_sortedT rfl hu) (by rfl) T.sorted (by decide +kernel) (pa_cons (pe_callTy (call_setOfT rfl) (by rfl) T.set (by decide +kernel) (pa_cons (pv 13) pa_nil)) pa_nil)) po_none (po_some pe_int)) pa_nil)) pa_nil)))) pa_nil)))))))
      (pss_one (ps_ret (pe_callTy call_tuple_of (by rfl) T.tuple (by decide +kernel) (pa_cons (pe_lc (own := [("_law_name", 9)]) rfl scArc.nd (pi_list (pv 4)) (blkOk_by (N := ["_law_well_here", "_law_most", "_law_rooms", "_law_members", "_law_rooms_named", "_law_way", "_law_first", "_law_order", "_law_symbols", "_law_name", "_law_lots", "_law_at", "_law_defines", "_law_needs_here"]) (sc := defScope sArc) (by decide +kernel)) (fun _ _ _ _ _ => (pg_name (i := 9) scArc.nd rfl (Or.inl rfl))) (fun _ _ _ _ _ => pts_nil) (fun _ _ _ _ _ => (pe_tup (pa_cons (pv 9) (pa_cons (pe_callTy cr_tupH (by rfl) T.tuple (by decide +kernel) (pa_cons (pe_callB (cr_sortDs hu) (by rfl) T.sorted (by decide +kernel) (pa_cons (pe_dget hu1 (pv 10) (pv 9) (fun _ _ => rfl)) pa_nil)) pa_nil)) pa_nil))))) pa_nil))))))))))), ?_⟩
    rw [show L2.start ["_law_well_here", "_law_most", "_law_rooms", "_law_members", "_law_rooms_named", "_law_way", "_law_first", "_law_order", "_law_symbols", "_law_name", "_law_lots", "_law_at", "_law_defines", "_law_needs_here"] [.ref a, .int (m : Nat), .int (r : Nat)] = [some (.ref a), some (.int (m : Nat)), some (.int (r : Nat)), none, none, none, none, none, none, none, none, none, none, none] from rfl]
    simp only [tSeq, tAsg, gName, tOp, tUn, tVar, tC, rI, rI0, tIfS, tTest, tCB, tCons, tNil, tRet, tRetN, tNext, tDrop, tLst, tTup, cxOf, rIxLH, rIxTH, gSub, rSetL, tAnd, tOr, tNot, tB, tIf, tCall, gTup, gCons, gNil, tPar, tAug, tAndV, tOrV, tNotV, upd_same, upd_upd, HO.lst.injEq, HO.tup.injEq, Option.some.injEq, V.int.injEq, V.ref.injEq, V.bl.injEq, V.str.injEq, List.cons.injEq, and_true, true_and, exists_eq_left', exists_eq_left, exists_and_left, exists_eq_right, exists_eq_right', List.set_cons_succ, List.set_cons_zero, List.getElem?_cons_zero, List.getElem?_cons_succ, List.cons_append, List.nil_append, List.append_nil, reduceCtorEq, false_and, and_false, exists_false, false_or, or_false, Int.reduceLT, Int.reduceLE, List.length_cons, List.length_nil, Nat.reduceAdd, implies_true, exists_const]
    have nea : ∀ {H1 : Hp} {n : Nat} {b : Addr}, WellAt H1 a n → H1 b = none → b ≠ a := fun {H1 n b} h1 h2 z => by
      obtain ⟨_, h3⟩ := h1.some
      rw [z, h3] at h2
      cases h2
    -- the members' names
    refine ⟨a, _, N, rfl, hw, by omega, by omega, by omega, fun d1 H1 hd1 s1 w1 => ⟨by decide, fun p1 np1 => ?_⟩⟩
    have i1 := same_upd (o := .lst (([("" : Str), "m", "x7", "longish"]).map V.str)) np1
    refine ⟨a, p1, N + 1, d1, ["", "m", "x7", "longish"], rfl, w1.mono i1, by omega, nea w1 np1, upd_same, by decide, by decide, by decide +kernel, by omega, fun stem f0 Mb H2 hst hf0 s2 w2 nMb hMb => ?_⟩
    have so1 : stemOk stem = true := by
      have z : (([("" : Str), "m", "x7", "longish"]).all stemOk) = true := by decide +kernel
      exact List.all_eq_true.mp z stem hst
    have t2 : Sab a H H2 := s1.trans ((sab_of i1).trans s2)
    have nMa : Mb ≠ a := nea (w1.mono i1) nMb
    have nMb0 : H Mb = none := none_of_sab (s1.trans (sab_of i1)) nMb nMa
    -- the rooms' names
    refine ⟨a, _, N + 3, rfl, w2, by omega, by omega, by omega, fun d2 H3 hd2 s3 w3 => ⟨_, rfl, by decide, fun p2 np2 => ?_⟩⟩
    have i3 := same_upd (o := .lst (([("" : Str), "lib", "zzzzzzz", "0"]).map V.str)) np2
    refine ⟨a, p2, N + 4, 1 + d2, ["", "lib", "zzzzzzz", "0"], rfl, w3.mono i3, by omega, nea w3 np2, upd_same, by decide, by decide, by decide +kernel, by omega, fun stem2 f2 Rm H4 hst2 hf2 s4 w4 nRm hRm => ?_⟩
    have so2 : stemOk stem2 = true := by
      have z : (([("" : Str), "lib", "zzzzzzz", "0"]).all stemOk) = true := by decide +kernel
      exact List.all_eq_true.mp z stem2 hst2
    have s24 : Sab a H2 H4 := s3.trans ((sab_of i3).trans s4)
    have t4 : Sab a H H4 := t2.trans s24
    have nRa : Rm ≠ a := nea (w3.mono i3) nRm
    have hMb4 := s24 _ _ nMa hMb
    -- the way, the first sign
    refine ⟨a, 6, N + 6, rfl, w4, by decide, by decide, by omega, fun wy H5 hwy s5 w5 => ⟨by decide, fun p3 np3 => ?_⟩⟩
    have i5 := same_upd (o := .lst (([("s" : Str), "def", "sy"]).map V.str)) np3
    refine ⟨a, p3, N + 7, _, rfl, w5.mono i5, by omega, nea w5 np3, upd_same, by decide, by decide, fun i v H6 hv s6 w6 => ⟨by decide, fun T0 nT0 => ⟨_, SqT.of upd_same, rfl, _, _, rfl, _, _, rfl, rfl, ?_⟩⟩⟩
    obtain ⟨first, hfst, rfl⟩ : ∃ first : Str, first ∈ ([("s" : Str), "def", "sy"]) ∧ v = .str first := by
      have hv2 : (([("s" : Str), "def", "sy"]).map V.str)[i]? = some v := hv
      rw [List.getElem?_map] at hv2
      cases hz : ([("s" : Str), "def", "sy"])[i]? with
      | none =>
        rw [hz] at hv2
        cases hv2
      | some z =>
        rw [hz] at hv2
        cases hv2
        exact ⟨z, List.mem_of_getElem? hz, rfl⟩
    have i6 := same_upd (o := .tup [V.int (wy : Nat), V.str first]) nT0
    have s46 : Sab a H4 (upd H6 T0 (.tup [V.int (wy : Nat), V.str first])) := s5.trans ((sab_of i5).trans (s6.trans (sab_of i6)))
    have w6' := w6.mono i6
    -- the order
    have gn : (sortS (namesOf stem f0 d1)).all isNameS = true := by
      rw [List.all_eq_true]
      intro z hz
      obtain ⟨c, _, rfl⟩ := List.mem_map.mp ((sortS_perm _).mem_iff.mp hz)
      exact name_good so1 _
    have gl : (sortS (namesOf stem f0 d1)).length = d1 := by
      rw [(sortS_perm _).length_eq]
      unfold namesOf
      rw [List.length_map, List.length_range]
    refine ⟨a, Mb, N + 8, sortS (namesOf stem f0 d1), rfl, w6', by omega, nMa, s46 _ _ nMa hMb4, by omega, gn, fun ord Or H7 hord s7 w7 nOr hOr => ?_⟩
    have nOa : Or ≠ a := nea w6' nOr
    have s47 := s46.trans s7
    have hRm7 := s47 _ _ nRa hRm
    have ol : ord.length = d1 := by rw [hord.length_eq, gl]
    have oshape : ∀ z ∈ ord, ∃ c, z = stem ++ sign1 c := fun z hz => by
      obtain ⟨c, _, rfl⟩ := List.mem_map.mp ((sortS_perm _).mem_iff.mp (hord.mem_iff.mp hz))
      exact ⟨_, rfl⟩
    have onod : ord.Nodup := hord.nodup_iff.mpr ((sortS_perm _).nodup_iff.mpr (names_nodup (by omega)))
    -- the symbols
    refine ⟨_, rfl, Or, rfl, ⟨_, SqL.of hOr⟩, fun Sy nSy => lco (ord.map fun z => some (V.str (first ++ cutS z (some (-1)) none))) (walk_lst hOr nSy) (by rw [List.length_map, List.length_map]) (by rw [List.length_map]; omega) nSy (fun t y o H8 R R0 lt hy ho s8 r1 r0 => ?_) (fun H8 s8 hSy => ?_)⟩
    · unfold ItL at hy
      rw [List.getElem?_map] at hy ho
      cases hz : ord[t]? with
      | none =>
        rw [hz] at hy
        cases hy
      | some z =>
        rw [hz] at hy ho
        cases hy
        cases ho
        have zl : z.length ≤ 8 := by
          obtain ⟨c, rfl⟩ := oshape z (List.mem_of_getElem? hz)
          have z1 := name_good so1 c
          unfold isNameS at z1
          simp only [Bool.and_eq_true] at z1
          exact of_decide_eq_true z1.2.1
        have zc := cutS_length z (some (-1)) none
        have fl : first.length ≤ 3 := by
          have z : ∀ s ∈ ([("s" : Str), "def", "sy"]), s.length ≤ 3 := by decide +kernel
          exact z first hfst
        exact ⟨rfl, _, rfl, _, rfl, 1, rfl, -1, rfl, z, rfl, by omega, first, rfl, _, rfl, by omega, r1 _ _ rfl (Same.refl _)⟩
    rw [keep_some] at hSy
    -- the lots, empty
    have hSy : H8 Sy = some (.lst ((ord.map fun z => first ++ lastS z).map V.str)) := by
      rw [hSy, List.map_map]
      rfl
    generalize hrm : sortS (namesOf stem2 f2 (1 + d2)) = rooms at hRm hRm7
    have rl : rooms.length = 1 + d2 := by
      rw [← hrm, (sortS_perm _).length_eq]
      unfold namesOf
      rw [List.length_map, List.length_range]
    have rnod : rooms.Nodup := by
      rw [← hrm]
      exact (sortS_perm _).nodup_iff.mpr (names_nodup (by omega))
    have rasc : ascS rooms = true := by
      rw [← hrm]
      exact asc_sort (names_nodup (by omega))
    have rok : rooms.all isNameS = true := by
      rw [List.all_eq_true, ← hrm]
      intro z hz
      obtain ⟨c, _, rfl⟩ := List.mem_map.mp ((sortS_perm _).mem_iff.mp hz)
      exact name_good so2 _
    have hRm8 := s8 _ _ hRm7
    have hOr8 := s8 _ _ hOr
    have w8 := w7.mono s8
    have t8 : Sab a H H8 := t4.trans (s47.trans (sab_of s8))
    refine ⟨_, rfl, Rm, rfl, ⟨_, SqL.of hRm8⟩, fun D nD => lc_list (xs := rooms.map V.str) (fun i H9 => ∃ prs : List (Addr × Str × Addr), prs.map (fun p => p.2.1) = rooms.take i ∧ Sab D H8 H9 ∧ H9 D = some (.lst (prs.map fun p => V.ref p.1)) ∧ (prs.map fun p => p.2.2).Nodup ∧ ∀ p ∈ prs, H8 p.2.2 = none ∧ p.2.2 ≠ D ∧ H9 p.1 = some (.tup [.str p.2.1, .ref p.2.2]) ∧ H9 p.2.2 = some (.lst []))
      ⟨[], rfl, Sab.refl.upd, upd_same, List.nodup_nil, fun p hp => (nomatch hp)⟩ (fun i H9 hi hP => ?_) (fun i x H9 hx hP => ?_) (fun H9 hP => ?_)⟩
    · obtain ⟨prs, _, g2, _⟩ := hP
      exact SqL.of (g2 _ _ (ne_of_none hRm8 nD) hRm8)
    · obtain ⟨prs, g1, g2, g3, g4, g5⟩ := hP
      rw [List.getElem?_map] at hx
      cases hz : rooms[i]? with
      | none =>
        rw [hz] at hx
        cases hx
      | some z =>
        rw [hz] at hx
        cases hx
        have lt : i < rooms.length := (List.getElem?_eq_some_iff.mp hz).1
        have pl : prs.length ≤ 9 := by
          have z1 := congrArg List.length g1
          rw [List.length_map, List.length_take] at z1
          omega
        refine ⟨rfl, _, rfl, Nat.zero_le _, fun q nq => ⟨(show 2 ≤ sizeLine by decide), fun T nT => ?_⟩⟩
        have j1 := same_upd (o := .lst []) nq
        have j2 := same_upd (o := .tup [V.str z, V.ref q]) nT
        have j12 := same_tr j1 j2
        have nqD : q ≠ D := fun e => by
          rw [e, g3] at nq
          cases nq
        have nTD : T ≠ D := fun e => by
          rw [e] at nT
          rw [j1 _ _ g3] at nT
          cases nT
        refine ⟨_, j12 _ _ g3, by rw [List.length_map]; omega, prs ++ [(T, z, q)], ?_, (g2.trans (sab_of j12)).upd, ?_, ?_, fun p hp => ?_⟩
        · rw [List.map_append, g1, List.take_add_one, hz]
          rfl
        · rw [upd_same, List.map_append]
          rfl
        · rw [List.map_append]
          refine List.nodup_append.mpr ⟨g4, List.nodup_cons.mpr ⟨fun h => (nomatch h), List.nodup_nil⟩, fun x hx y hy e => ?_⟩
          rw [List.mem_singleton.mp hy] at e
          obtain ⟨p, hp, e2⟩ := List.mem_map.mp hx
          have z1 := (g5 p hp).2.2.2
          rw [e2, e, nq] at z1
          cases z1
        · rcases List.mem_append.mp hp with e | e
          · obtain ⟨k1, k2, k3, k4⟩ := g5 p e
            have npD : p.1 ≠ D := fun z => by
              rw [z, g3] at k3
              cases k3
            exact ⟨k1, k2, by rw [upd_ne npD]; exact j12 _ _ k3, by rw [upd_ne k2]; exact j12 _ _ k4⟩
          · rw [List.mem_singleton.mp e]
            refine ⟨none_of_sab g2 nq nqD, nqD, ?_, ?_⟩
            · rw [upd_ne nTD]
              exact upd_same
            · rw [upd_ne nqD]
              exact j2 _ _ upd_same
    obtain ⟨prs, g1, g2, g3, g4, g5⟩ := hP
    rw [List.length_map, List.take_length] at g1
    have s9 : Same H8 H9 := g2.same (Same.refl _) nD
    have ek : KVs (prs.map fun p => (p.2.1, V.ref p.2.2)) = KVs (rooms.zip ((prs.map fun p => (p.2.2, ([] : List PyData))).map fun p => V.ref p.1)) := by
      rw [← g1, List.map_map]
      congr 1
      generalize prs = l
      induction l with
      | nil => rfl
      | cons p l ih => rw [List.map_cons, List.map_cons, List.map_cons, List.zip_cons_cons, ih]; rfl
    have ekeys : ((prs.map fun p => (p.2.1, V.ref p.2.2)).map (·.1)) = rooms := by
      rw [List.map_map, ← g1]
      rfl
    refine ⟨D, rfl, prs.map (fun p => p.1), SqL.of (by rw [g3, List.map_map]; rfl), KVs (prs.map fun p => (p.2.1, V.ref p.2.2)), ?_, fun Lt nLt => ?_⟩
    · have z : ∀ l : List (Addr × Str × Addr), (∀ p ∈ l, H9 p.1 = some (.tup [.str p.2.1, .ref p.2.2])) → Paired (fun p (kv : Key × V) => SqT K H9 p [kV kv.1, kv.2]) (l.map fun p => p.1) (KVs (l.map fun p => (p.2.1, V.ref p.2.2))) := by
        intro l
        induction l with
        | nil => exact fun _ => .nil
        | cons p l ih => exact fun h => .cons (SqT.of (h p List.mem_cons_self)) (ih fun x hx => h x (List.mem_cons_of_mem _ hx))
      exact z prs fun p hp => (g5 p hp).2.2.1
    rw [show mergeK [] (KVs (prs.map fun p => (p.2.1, V.ref p.2.2))) = KVs (prs.map fun p => (p.2.1, V.ref p.2.2)) from mergeK_new (L := []) (by show ((prs.map fun p => (p.2.1, V.ref p.2.2)).map (·.1)).Nodup; rw [ekeys]; exact rnod)]
    have s10 : Same H8 (upd H9 Lt (.dK (KVs (prs.map fun p => (p.2.1, V.ref p.2.2))))) := same_tr s9 (same_upd nLt)
    have lots0 : LotsAt (upd H9 Lt (.dK (KVs (prs.map fun p => (p.2.1, V.ref p.2.2))))) Lt rooms (prs.map fun p => (p.2.2, ([] : List PyData))) := by
      refine ⟨by rw [upd_same, ek], by rw [List.length_map, ← g1, List.length_map], by rw [List.map_map]; exact g4, fun j q ds e => ?_⟩
      rw [List.getElem?_map] at e
      cases hp : prs[j]? with
      | none =>
        rw [hp] at e
        cases e
      | some p =>
        rw [hp] at e
        cases e
        exact ⟨[], same_upd nLt _ _ (g5 p (List.mem_of_getElem? hp)).2.2.2, .nil, rfl⟩
    have nLt8 : H8 Lt = none := none_of_same s9 nLt
    have fresh0 : ∀ p ∈ prs.map (fun p => (p.2.2, ([] : List PyData))), H8 p.1 = none := fun p hp => by
      obtain ⟨y, hy, rfl⟩ := List.mem_map.mp hp
      exact (g5 y hy).1
    have flat0 : ((prs.map fun p => (p.2.2, ([] : List PyData))).map (·.2)).flatten = [] := by
      rw [List.map_map]
      generalize prs = l
      induction l with
      | nil => rfl
      | cons p l ih => exact ih
    generalize prs.map (fun p => (p.2.2, ([] : List PyData))) = L0 at lots0 fresh0 flat0
    generalize upd H9 Lt (.dK (KVs (prs.map fun p => (p.2.1, V.ref p.2.2)))) = H10 at s10 lots0
    have nOr8 : ∀ {b : Addr} {o : HO} {c : Addr}, H8 b = some o → H8 c = none → c ≠ b := fun h1 h2 e => by
      rw [e, h1] at h2
      cases h2
    have nLta : Lt ≠ a := nea w8 nLt8
    have nSya : Sy ≠ a := nea w7 nSy
    -- the members, one by one
    refine ⟨_, rfl, Or, _, rfl, SqL.of (s10 _ _ hOr8), for_enumL (K := K) (xs := ord.map V.str) (fun i σ H2 => ∃ (L : List (Addr × List PyData)) (info : List (Str × Bool × List Str)) (v9 v11 v12 v13 : Option V),
      σ = [some (.ref a), some (.int (m : Nat)), some (.int (r : Nat)), some (.ref Mb), some (.ref Rm), some (.int (wy : Nat)), some (.str first), some (.ref Or), some (.ref Sy), v9, some (.ref Lt), v11, v12, v13] ∧ Sab a H8 H2 ∧ WellAt H2 a (N + 8 + d1 + 8 * i) ∧ LotsAt H2 Lt rooms L ∧ (∀ p ∈ L, H8 p.1 = none) ∧
      (L.map (·.2)).flatten.Perm (info.map (mkM first)) ∧ info.map (·.1) = ord.take i ∧ ∀ e ∈ info, e.2.2.all isNameS = true ∧ ∀ y ∈ e.2.2, y ∈ ord.map (fun z => first ++ lastS z) ∨ y = "unknown")
      ⟨L0, [], _, _, _, _, rfl, sab_of s10, (w8.mono s10).le (by rw [gl]; omega), lots0, fresh0, by rw [flat0]; exact List.Perm.refl _, rfl, fun e he => (nomatch he)⟩ (fun i σ H2 hi hP => ?_) (fun i x σ H2 T0 hx hP nT0 => ?_) (fun σ H2 hP => ?_)⟩
    · obtain ⟨L, info, v9, v11, v12, v13, _, g2, _⟩ := hP
      exact SqL.of (g2 _ _ nOa hOr8)
    · obtain ⟨L, info, v9, v11, v12, v13, rfl, sH, hw2, hLt, hfr, hpm, hnm, hnd⟩ := hP
      rw [List.getElem?_map] at hx
      cases hz : ord[i]? with
      | none =>
        rw [hz] at hx
        cases hx
      | some z =>
        rw [hz] at hx
        cases hx
        have hi : i < ord.length := (List.getElem?_eq_some_iff.mp hz).1
        have hzo := oshape z (List.mem_of_getElem? hz)
        have zl : z.length ≤ 8 := by
          obtain ⟨c, rfl⟩ := hzo
          have z1 := name_good so1 c
          unfold isNameS at z1
          simp only [Bool.and_eq_true] at z1
          exact of_decide_eq_true z1.2.1
        have zc := cutS_length z (some (-1)) none
        have two3 : ("two" : Str).length = 3 := by decide +kernel
        obtain ⟨wx, hwx⟩ := hw2.some
        have nqa : ∀ p ∈ L, p.1 ≠ a := fun p hp => nea w8 (hfr p hp)
        refine ⟨T0, _, rfl, SqT.of upd_same, rfl, _, _, rfl, _, _, rfl, rfl, ?_⟩
        have j0 := same_upd (o := .tup [V.int (i : Nat), V.str z]) nT0
        -- defines
        have hsy : ((ord.map fun z => first ++ lastS z).map V.str)[i]? = some (.str (first ++ lastS z)) := by
          rw [List.getElem?_map, List.getElem?_map, hz]
          rfl
        refine ⟨_, rfl, _, rfl, Sy, _, _, _, rfl, rfl, j0 _ _ (sH _ _ nSya hSy), atI_nat hsy, (show 1 ≤ sizeLine by decide), fun l1 nl1 => ?_⟩
        have j1 := same_tr j0 (same_upd (o := .lst [V.str (first ++ lastS z)]) nl1)
        refine ⟨_, rfl, 1, rfl, -1, rfl, z, rfl, by omega, _, rfl, _, rfl, by omega, (show 1 ≤ sizeLine by decide), fun l2 nl2 => ?_⟩
        have k2 := same_upd (o := .lst [V.str ("two" ++ lastS z)]) nl2
        have j2 := same_tr j1 k2
        refine ⟨_, rfl, a, 5, N + 8 + d1 + 8 * i, rfl, hw2.mono j2, by decide, by decide, by omega, fun dd G3 hdd s3 w3 => ⟨rfl, .inr ⟨_, rfl, ?_⟩⟩⟩
        generalize (decide (V.int (dd : Nat) = V.int 0)) = b0
        have w2m := hw2.mono j2
        have nl1a : l1 ≠ a := nea (hw2.mono j0) nl1
        have nl2a : l2 ≠ a := nea (hw2.mono j1) nl2
        have hl1 := s3 _ _ nl1a (k2 _ _ (upd_same (H := upd H2 T0 (.tup [V.int (i : Nat), V.str z])) (a := l1) (o := .lst [V.str (first ++ lastS z)])))
        have hl2 := s3 _ _ nl2a (upd_same (H := upd (upd H2 T0 (.tup [V.int (i : Nat), V.str z])) l1 (.lst [V.str (first ++ lastS z)])) (a := l2) (o := .lst [V.str ("two" ++ lastS z)]))
        have u3 : Sab a H2 G3 := (sab_of j2).trans s3
        refine ⟨l2, _, _, rfl, rfl, hl2, ?_, ?_, ?_, fun l3 nl3 => ?_⟩
        · cases b0 <;> decide
        · cases b0 <;> decide
        · cases b0 <;> (show 1 * _ ≤ sizeLine; decide)
        have erep : (List.replicate (Int.toNat (if b0 = true then 1 else 0)) [V.str ("two" ++ lastS z)]).flatten = (if b0 = true then [("two" : Str) ++ lastS z] else []).map V.str := by cases b0 <;> rfl
        rw [erep]
        have k4 := same_upd (o := .lst ((if b0 = true then [("two" : Str) ++ lastS z] else []).map V.str)) nl3
        refine cat_use (k4 _ _ hl1) upd_same ?_ (fun l4 nl4 => ?_)
        · have z : ∀ (x : Str) (b : Bool), 1 + ((if b = true then [x] else []).map V.str).length ≤ 2 := by
            intro x b
            cases b <;> simp
          exact Nat.le_trans (z _ b0) (by decide)
        have ecat : [V.str (first ++ lastS z)] ++ (if b0 = true then [("two" : Str) ++ lastS z] else []).map V.str = ([first ++ lastS z] ++ (if b0 = true then [("two" : Str) ++ lastS z] else [])).map V.str := by cases b0 <;> rfl
        rw [ecat]
        generalize hdf : [first ++ lastS z] ++ (if b0 = true then [("two" : Str) ++ lastS z] else []) = dfs
        have dfl : dfs.length ≤ 2 := by
          rw [← hdf]
          cases b0 <;> simp
        have k5 := same_upd (o := .lst (dfs.map V.str)) nl4
        have j5 := same_tr k4 k5
        have u5 := u3.trans (sab_of j5)
        have nl4a : l4 ≠ a := nea (w3.mono k4) nl4
        -- needs
        refine ⟨_, rfl, _, rfl, _, rfl, _, rfl, a, Sy, N + 8 + d1 + 8 * i + 1, i, wy, ord.map (fun z => first ++ lastS z), rfl, w3.mono j5, by omega, nSya, u5 _ _ nSya (sH _ _ nSya hSy), by rw [List.length_map]; omega, by rw [List.length_map]; exact hi, fun ys D5 G6 hys hyl s6 w6 nD5 hD5 => ?_⟩
        have u6 := u5.trans s6
        have yok : ys.all isNameS = true := by
          rw [List.all_eq_true]
          intro y hy
          rcases hys y hy with e | e
          · obtain ⟨z2, hz2, rfl⟩ := List.mem_map.mp e
            obtain ⟨c, rfl⟩ := oshape z2 hz2
            rw [lastS_name]
            have h1 : ∀ f ∈ ([("s" : Str), "def", "sy"]), stemOk f = true := by decide +kernel
            exact name_good (h1 first hfst) c
          · rw [e]
            decide +kernel
        -- the room
        refine ⟨_, rfl, _, rfl, _, rfl, a, Rm, N + 8 + d1 + 8 * i + 7, _, rfl, w6.le (by omega), by omega, nRa, u6 _ _ nRa (sH _ _ nRa hRm8), by rw [Ne, List.map_eq_nil_iff]; exact fun z => by rw [z, List.length_nil] at rl; omega, by rw [List.length_map]; omega, fun jr v G7 hv s7' w7' => ?_⟩
        rw [List.getElem?_map] at hv
        cases hro : rooms[jr]? with
        | none =>
          rw [hro] at hv
          cases hv
        | some ro =>
          rw [hro] at hv
          cases hv
          have u7 := u6.trans s7'
          have hLt7 := hLt.sab u7 hwx nLta nqa
          have hjl : jr < L.length := by
            rw [← hLt.2.1]
            exact (List.getElem?_eq_some_iff.mp hro).1
          obtain ⟨qq, hqq⟩ : ∃ p, L[jr]? = some p := ⟨_, List.getElem?_eq_getElem hjl⟩
          obtain ⟨qa, qd⟩ := qq
          obtain ⟨us7, hq7, _⟩ := hLt7.2.2.2 jr qa qd hqq
          have nD5a : D5 ≠ a := nea (w3.mono j5) nD5
          have hl47 := s7' _ _ nl4a (s6 _ _ nl4a (upd_same (H := upd G3 l3 (.lst ((if b0 = true then [("two" : Str) ++ lastS z] else []).map V.str))) (a := l4) (o := .lst (dfs.map V.str))))
          have hD57 := s7' _ _ nD5a hD5
          refine ⟨Lt, _, rfl, .inl ⟨_, Sum.inr ro, .inl hLt7.1, rfl, (hLt7.look rnod hro hqq).symm⟩, .inl ⟨rfl, _, SqL.of hq7⟩, ?_⟩
          -- the member
          refine ⟨_, rfl, _, rfl, l4, dfs, rfl, SqL.of hl47, by omega, fun sd p8 hp8 hs8 np8 => ⟨p8, rfl, _, .inl ⟨SqL.of upd_same, fun p9 np9 => ?_⟩⟩⟩
          have esd : sd = sortS dfs := List.Perm.eq_of_pairwise (le := fun x y => leS x y = true) (fun _ _ _ _ h1 h2 => leS_anti h1 h2) (sortedS_pw hs8) (sortS_sorted _) (hp8.trans (sortS_perm _).symm)
          subst esd
          have k8 := same_upd (o := .lst ((sortS dfs).map V.str)) np8
          have k9 := same_upd (o := .tup ((sortS dfs).map V.str)) np9
          have j9 := same_tr k8 k9
          have ksc : 24 < scanBound := by decide
          refine ⟨_, rfl, D5, ys, rfl, .inl (j9 _ _ hD57), by omega, fun S nS => ⟨S, _, rfl, upd_same, fun l11 nl11 => ⟨8, rfl, l11, _, rfl, SqL.of upd_same, fun c12 nc12 => ?_⟩⟩⟩
          have ecut : cutV ((sortS (firsts ys)).map V.str) none (some 8) = (nds8 ys).map V.str := by
            unfold cutV nds8
            rw [HT.sIx_none, show HT.sIx ((sortS (firsts ys)).map V.str).length ((sortS (firsts ys)).map V.str).length (some 8) = min 8 ((sortS (firsts ys)).map V.str).length from HT.sIx_nat _ _ 8, List.drop_zero, Nat.sub_zero, List.map_take]
            rw [List.take_eq_take_iff]
            omega
          rw [ecut]
          refine ⟨c12, rfl, _, .inl ⟨SqL.of upd_same, fun p13 np13 => ⟨(show 3 ≤ sizeLine by decide), fun tt ntt => ?_⟩⟩⟩
          have k10 := same_upd (o := SetT w S (firsts ys)) nS
          have k11 := same_upd (o := .lst ((sortS (firsts ys)).map V.str)) nl11
          have k12 := same_upd (o := .lst ((nds8 ys).map V.str)) nc12
          have k13 := same_upd (o := .tup ((nds8 ys).map V.str)) np13
          have k14 := same_upd (o := .tup [V.str z, V.ref p9, V.ref p13]) ntt
          have j13 := same_tr k10 (same_tr k11 (same_tr k12 k13))
          have j14 := same_tr j9 (same_tr j13 k14)
          have u14 := u7.trans (sab_of j14)
          have hLt14 := hLt7.mono j14
          obtain ⟨us, hq14, hus, _⟩ := hLt14.2.2.2 jr qa qd hqq
          have dmem : Dr _ (V.ref tt) (mkM first (z, b0, ys)) := .tup (upd_same (a := tt) (o := .tup [V.str z, V.ref p9, V.ref p13])) (.cons (.str z) (.cons (.tup (k14 _ _ (j13 _ _ upd_same)) (by
            show DrAll _ _ ((symsOf first z b0).map PyData.str)
            unfold symsOf
            rw [hdf]
            exact dr_strs _)) (.cons (.tup (k14 _ _ upd_same) (dr_strs _)) .nil)))
          have okm : isMemberD (mkM first (z, b0, ys)) = true := mkM_ok hfst so1 hzo yok
          have fl1 : flatD (mkM first (z, b0, ys)) = true := by
            have z1 := flat_members (ms := [mkM first (z, b0, ys)]) (by rw [List.all_cons, okm]; rfl)
            have z2 := Bool.and_eq_true_iff.mp z1
            exact z2.1
          have hadd := hLt14.add hqq hq14 hus dmem fl1
          have nqa1 := nqa (qa, qd) (List.mem_of_getElem? hqq)
          have ql : us.length ≤ 100 := by
            rw [hus.len]
            have z1 := hpm.length_eq
            rw [List.length_map] at z1
            have z2 := congrArg List.length hnm
            rw [List.length_map, List.length_take] at z2
            have z3 : qd.length ≤ (L.map (·.2)).flatten.length := (List.sublist_flatten_of_mem (List.mem_map (f := fun x : Addr × List PyData => x.2).mpr ⟨(qa, qd), List.mem_of_getElem? hqq, rfl⟩)).length_le
            omega
          refine ⟨qa, us, _, rfl, rfl, hq14, by omega, L.set jr (qa, qd ++ [mkM first (z, b0, ys)]), info ++ [(z, b0, ys)], _, _, _, _, rfl, sab_updN (sH.trans u14) (hfr (qa, qd) (List.mem_of_getElem? hqq)), ?_, hadd, fun p hp => ?_, ?_, ?_, fun e he => ?_⟩
          · obtain ⟨o1, c1, n1, g1, g2⟩ := w7'.mono j14
            refine ⟨o1, c1, n1, by rw [upd_ne nqa1.symm]; exact g1, g2.1, g2.2.1, g2.2.2.1, g2.2.2.2.1, by omega⟩
          · rcases List.mem_or_eq_of_mem_set hp with e | e
            · exact hfr p e
            · rw [e]
              exact hfr (qa, qd) (List.mem_of_getElem? hqq)
          · rw [List.map_append]
            exact (flat_set hqq).trans (hpm.append_right _)
          · rw [List.map_append, hnm, List.take_add_one, hz]
            rfl
          · rcases List.mem_append.mp he with e1 | e1
            · exact hnd e e1
            · rw [List.mem_singleton.mp e1]
              exact ⟨yok, hys⟩
    · obtain ⟨L, info, v9, v11, v12, v13, rfl, sH, hw2, hLt, hfr, hpm, hnm, hnd⟩ := hP
      rw [List.length_map, List.take_length] at hnm
      have hsh : ∀ e ∈ info, ∃ c, e.1 = stem ++ sign1 c := fun e he => oshape e.1 (by rw [← hnm]; exact List.mem_map.mpr ⟨e, he, rfl⟩)
      have mok : (info.map (mkM first)).all isMemberD = true := by
        rw [List.all_eq_true]
        intro x hx
        obtain ⟨e, he, rfl⟩ := List.mem_map.mp hx
        exact mkM_ok hfst so1 (hsh e he) (hnd e he).1
      have il : info.length = d1 := by
        have z := congrArg List.length hnm
        rw [List.length_map] at z
        omega
      have lok : (L.map (·.2)).flatten.all isMemberD = true := by
        rw [List.all_eq_true] at mok ⊢
        exact fun x hx => mok x (hpm.mem_iff.mp hx)
      have arok : areArchivesL (arcsOf rooms (L.map (·.2))) = true := by
        refine archives_ok (ms := info.map (mkM first)) (by rw [List.length_map]; exact hLt.2.1) (by omega) rok rasc hpm mok ?_ ?_ (by rw [List.length_map]; omega)
        · rw [List.map_map]
          have z : (nm0 ∘ mkM first) = fun e : Str × Bool × List Str => e.1 := rfl
          rw [z, hnm]
          exact onod
        · have z : (info.map (mkM first)).flatMap (fun m => namesD (it1 m)) = info.flatMap fun e => symsOf first e.1 e.2.1 := by
            rw [List.flatMap_map]
            congr 1
            funext e
            exact namesD_strs _
          rw [z]
          exact syms_nodup hfst (by rw [hnm]; exact onod) hsh
      have arfl : flatA (arcsOf rooms (L.map (·.2))) = true := by
        have z : ∀ (rs : List Str) (ls : List (List PyData)), ls.flatten.all isMemberD = true → flatA (arcsOf rs ls) = true := by
          intro rs
          induction rs with
          | nil => intro ls _; rfl
          | cons r0 rs ih =>
            intro ls h
            cases ls with
            | nil => rfl
            | cons l ls =>
              rw [List.flatten_cons, List.all_append, Bool.and_eq_true] at h
              have h1 : (sortDs l).all isMemberD = true := by
                rw [List.all_eq_true]
                exact fun d hd => List.all_eq_true.mp h.1 d ((sortDs_perm l).mem_iff.mp hd)
              show ((true && (flatA (sortDs l) && true)) && flatA (arcsOf rs ls)) = true
              rw [flat_members h1, ih ls h.2]
              rfl
        exact z _ _ lok
      obtain ⟨wx, hwx⟩ := hw2.some
      have hRm2 := sH _ _ nRa hRm8
      refine ⟨_, rfl, Rm, rfl, ⟨_, SqL.of hRm2⟩, fun D2 nD2 => lcoR (arcsOf rooms (L.map (·.2))) (walk_lst hRm2 nD2) (by rw [List.length_map]; exact arcsOf_len (by rw [List.length_map]; exact hLt.2.1)) arfl (by rw [List.length_map]; omega) nD2 (fun j x dd G2 R0 lt hx hdd s2' rr => ?_) (fun G2 us s2' hus hD2 => ?_)⟩
      · unfold ItL at hx
        rw [List.getElem?_map] at hx
        cases hro : rooms[j]? with
        | none =>
          rw [hro] at hx
          cases hx
        | some ro =>
          rw [hro] at hx
          cases hx
          have hjl : j < L.length := by
            rw [← hLt.2.1]
            exact (List.getElem?_eq_some_iff.mp hro).1
          obtain ⟨qq, hqq⟩ : ∃ p, L[j]? = some p := ⟨_, List.getElem?_eq_getElem hjl⟩
          obtain ⟨qa, qd⟩ := qq
          have hLt2 := hLt.mono s2'
          obtain ⟨us, hq, hus, _⟩ := hLt2.2.2.2 j qa qd hqq
          have edd : dd = arcD ro qd := by
            have z : ∀ (rs : List Str) (ls : List (List PyData)) (j : Nat) (r0 : Str) (l : List PyData), rs[j]? = some r0 → ls[j]? = some l → (arcsOf rs ls)[j]? = some (arcD r0 l) := by
              intro rs
              induction rs with
              | nil => intro ls j r0 l h; simp at h
              | cons a0 rs ih =>
                intro ls j r0 l h1 h2
                cases ls with
                | nil => simp at h2
                | cons b0 ls =>
                  cases j with
                  | zero =>
                    cases h1
                    cases h2
                    rfl
                  | succ j => exact ih ls j r0 l h1 h2
            rw [z rooms (L.map (·.2)) j ro qd hro (by rw [List.getElem?_map, hqq]; rfl)] at hdd
            exact (Option.some.inj hdd).symm
          subst edd
          have qok : qd.all isMemberD = true := by
            rw [List.all_eq_true] at lok ⊢
            exact fun x hx => lok x (List.mem_flatten.mpr ⟨qd, List.mem_map.mpr ⟨(qa, qd), List.mem_of_getElem? hqq, rfl⟩, hx⟩)
          obtain ⟨so3, so4, so5⟩ := members_sortable qok
          refine ⟨rfl, _, rfl, _, rfl, _, rfl, Lt, _, rfl, .inl ⟨_, Sum.inr ro, .inl hLt2.1, rfl, (hLt2.look rnod hro hqq).symm⟩, qa, us, qd, rfl, hq, hus, so3, so4, so5, fun p5 vs5 np5 hv5 => ⟨p5, _, rfl, .inl ⟨upd_same, fun p6 np6 => ⟨(show 2 ≤ sizeLine by decide), fun p7 np7 => ?_⟩⟩⟩⟩
          have k5 := same_upd (o := .lst vs5) np5
          have k6 := same_upd (o := .tup vs5) np6
          have k7 := same_upd (o := .tup [V.str ro, V.ref p6]) np7
          exact rr _ _ (same_tr k5 (same_tr k6 k7)) (.tup upd_same (.cons (.str ro) (.cons (.tup (k7 _ _ upd_same) (((hv5.mono k5).mono k6).mono k7)) .nil)))
      · refine ⟨D2, rfl, _, .inl ⟨SqL.of hD2, fun p5 np5 => ?_⟩⟩
        have k5 := same_upd (o := .tup us) np5
        refine q (arcsOf rooms (L.map (·.2))) _ _ arok ?_ ?_ ?_ (by rw [arcsOf_len (by rw [List.length_map]; exact hLt.2.1)]; omega) ?_ ?_ (t8.trans (sH.trans ((sab_of s2').trans (sab_of k5)))) (((hw2.mono s2').mono k5).le (by rw [List.length_map]; omega)) (.tup upd_same (hus.mono k5))
        · exact Nat.le_trans (sz_arch arok) (by decide)
        · rw [((arcsOf_mems (by rw [List.length_map]; exact hLt.2.1)).trans hpm).length_eq, List.length_map]
          omega
        · have pm := (arcsOf_mems (rs := rooms) (ls := L.map (·.2)) (by rw [List.length_map]; exact hLt.2.1)).trans hpm
          have z1 : (srcOf ((arcsOf rooms (L.map (·.2))).flatMap it1)).length = (srcOf (info.map (mkM first))).length := by
            unfold srcOf
            exact (pm.flatMap_right _).length_eq
          have z2 : ∀ l : List (Str × Bool × List Str), (srcOf (l.map (mkM first))).length ≤ 2 * l.length := by
            intro l
            induction l with
            | nil => exact Nat.le_refl _
            | cons e l ih =>
              show (((namesD ((symsOf first e.1 e.2.1).map PyData.str)).map fun s => (s, V.str e.1)) ++ srcOf (l.map (mkM first))).length ≤ 2 * (l.length + 1)
              rw [List.length_append, List.length_map, namesD_strs]
              have z3 := (syms_self (z := e.1) (b := e.2.1) hfst).2.2
              omega
          rw [z1]
          have z3 := z2 info
          omega
        · intro m hm
          have hm2 := ((arcsOf_mems (rs := rooms) (ls := L.map (·.2)) (by rw [List.length_map]; exact hLt.2.1)).trans hpm).mem_iff.mp hm
          obtain ⟨e, he, rfl⟩ := List.mem_map.mp hm2
          obtain ⟨c, hc⟩ := hsh e he
          have hst3 : stem ∈ ([("" : Str), "m", "x7", "longish", "s", "def", "sy", "two"]) := by
            rcases List.mem_cons.mp hst with z | hst
            · rw [z]
              decide +kernel
            rcases List.mem_cons.mp hst with z | hst
            · rw [z]
              decide +kernel
            rcases List.mem_cons.mp hst with z | hst
            · rw [z]
              decide +kernel
            · rw [List.mem_singleton.mp hst]
              decide +kernel
          have hf3 : first ∈ ([("" : Str), "m", "x7", "longish", "s", "def", "sy", "two"]) := by
            rcases List.mem_cons.mp hfst with z | hfst
            · rw [z]
              decide +kernel
            rcases List.mem_cons.mp hfst with z | hfst
            · rw [z]
              decide +kernel
            · rw [List.mem_singleton.mp hfst]
              decide +kernel
          have hl1 : (lastS e.1).length = 1 := by
            rw [hc, lastS_name]
            rfl
          refine ⟨⟨stem, hst3, sign1 c, rfl, hc⟩, fun s hs => ?_⟩
          have hs : s ∈ namesD ((symsOf first e.1 e.2.1).map PyData.str) := hs
          rw [namesD_strs] at hs
          have hs := (sortS_perm _).mem_iff.mp hs
          rcases List.mem_append.mp hs with z | z
          · exact ⟨first, hf3, _, hl1, List.mem_singleton.mp z⟩
          · split at z
            · exact ⟨("two" : Str), by decide +kernel, _, hl1, List.mem_singleton.mp z⟩
            · cases z
        · refine ⟨ord.map (fun z => first ++ lastS z), by rw [List.length_map]; omega, fun s hs => ?_, fun x hx s hs => ?_⟩
          · obtain ⟨z, hz, rfl⟩ := List.mem_map.mp hs
            rw [← hnm] at hz
            obtain ⟨e, he, rfl⟩ := List.mem_map.mp hz
            refine ⟨mkM first e, ((arcsOf_mems (rs := rooms) (ls := L.map (·.2)) (by rw [List.length_map]; exact hLt.2.1)).trans hpm).mem_iff.mpr (List.mem_map.mpr ⟨e, he, rfl⟩), ?_⟩
            show _ ∈ namesD ((symsOf first e.1 e.2.1).map PyData.str)
            rw [namesD_strs]
            exact (sortS_perm _).mem_iff.mpr (List.mem_append_left _ (List.mem_singleton.mpr rfl))
          have hm2 := ((arcsOf_mems (rs := rooms) (ls := L.map (·.2)) (by rw [List.length_map]; exact hLt.2.1)).trans hpm).mem_iff.mp hx
          obtain ⟨e, he, rfl⟩ := List.mem_map.mp hm2
          have hs : s ∈ namesD ((nds8 e.2.2).map PyData.str) := hs
          rw [namesD_strs] at hs
          unfold nds8 at hs
          have hs2 := mem_firsts.mp ((sortS_perm _).mem_iff.mp (List.mem_of_mem_take hs))
          exact (hnd e he).2 s hs2
theorem ok_Arc2 {f : Addr} {fd : FuncData} {k : Nat} (F : Fun K "_law_archives" "_law_archives" sArc f fd) (T : Bl mg) (LDraw : Lnk P w K mg base "_law_draw" k ["_law_well_here", "_law_below"] spDrw) (LPick : Lnk P w K mg base "_law_pick" k ["_law_well_here", "_law_some"] spPick)
    (LNms : Lnk P w K mg base "_law_names" k ["_law_well_here", "_law_count", "_law_stems"] spNms) (LMix : Lnk P w K mg base "_law_mixed" k ["_law_well_here", "_law_some"] spMix) (LNds : Lnk P w K mg base "_law_needs" k ["_law_well_here", "_law_symbols", "_law_at", "_law_way"] spNds) : FnOk P w K mg base CX0 (k + 1) f fd ["_law_well_here", "_law_most", "_law_rooms"] spArc2 := (ok_Arc3 F T LDraw LPick LNms LMix LNds).imp arc2_of
theorem ok_Arc1 {f : Addr} {fd : FuncData} {k : Nat} (F : Fun K "_law_archives" "_law_archives" sArc f fd) (T : Bl mg) (LDraw : Lnk P w K mg base "_law_draw" k ["_law_well_here", "_law_below"] spDrw) (LPick : Lnk P w K mg base "_law_pick" k ["_law_well_here", "_law_some"] spPick)
    (LNms : Lnk P w K mg base "_law_names" k ["_law_well_here", "_law_count", "_law_stems"] spNms) (LMix : Lnk P w K mg base "_law_mixed" k ["_law_well_here", "_law_some"] spMix) (LNds : Lnk P w K mg base "_law_needs" k ["_law_well_here", "_law_symbols", "_law_at", "_law_way"] spNds) : FnOk P w K mg base CX0 (k + 1) f fd ["_law_well_here", "_law_most", "_law_rooms"] spArc1 := (ok_Arc2 F T LDraw LPick LNms LMix LNds).imp arc1_of
theorem ok_Arc {f : Addr} {fd : FuncData} {k : Nat} (F : Fun K "_law_archives" "_law_archives" sArc f fd) (T : Bl mg) (LDraw : Lnk P w K mg base "_law_draw" k ["_law_well_here", "_law_below"] spDrw) (LPick : Lnk P w K mg base "_law_pick" k ["_law_well_here", "_law_some"] spPick)
    (LNms : Lnk P w K mg base "_law_names" k ["_law_well_here", "_law_count", "_law_stems"] spNms) (LMix : Lnk P w K mg base "_law_mixed" k ["_law_well_here", "_law_some"] spMix) (LNds : Lnk P w K mg base "_law_needs" k ["_law_well_here", "_law_symbols", "_law_at", "_law_way"] spNds) : FnOk P w K mg base CX0 (k + 1) f fd ["_law_well_here", "_law_most", "_law_rooms"] spArc := (ok_Arc1 F T LDraw LPick LNms LMix LNds).imp arc_of
end

end LK
namespace LK
open PySem PySem.Spec PyProof.Rows L2
/-- what e gives is locked from there on -/
def tLockA (te : TE) : TE := fun σ H Q => te σ H fun x H1 => ∃ d u, x = .ref d ∧ H1 d = some u ∧ Mut (some u) ∧ ∀ od, Q x (upd H1 d (.frz od u))
theorem pe_lockA {X : Cx} {e : Expr} {te : TE} (h : PE X e te) : PE X e (tLockA te) := ⟨fun pins s σ H Q I hw => by
  refine wpAny_mono (h.run pins s σ H _ I hw) (fun v s1 hv => ?_) fun _ _ z => z
  obtain ⟨x, H1, I1, r, d, u, rfl, hd, mu, q⟩ := hv
  obtain ⟨od, I2⟩ := I1.lock hd mu
  exact ⟨.ref d, _, I2, r, q od⟩⟩
theorem for_items {d : Addr} {o : Obj} {kvs : List (Key × V)} {g : TG} {tb : TS} {D : Ends} {σ : L2.St} {H : Hp} (Pv : Nat → L2.St → Hp → Prop) (h0 : Pv 0 σ H) (hl : ∀ i σ H, i ≤ kvs.length → Pv i σ H → H d = some (.frz o (.dK kvs)))
    (hs : ∀ i k v σ H T, kvs[i]? = some (k, v) → Pv i σ H → H T = none → g (.ref T) σ (upd H T (.tup [kV k, v])) fun σ2 H2 => tb { D with nx := Pv (i + 1), ct := Pv (i + 1), bk := D.nx } σ2 H2) (hd : ∀ σ H, Pv kvs.length σ H → D.nx σ H) :
    tFor (fun _ H0 R => R (Iti d o kvs) H0) g tb D σ H := by
  refine ⟨fun i m σ H => m = kvs.length - i ∧ i ≤ kvs.length ∧ Pv i σ H, ⟨kvs.length, by simp, Nat.zero_le _, h0⟩, ?_⟩
  rintro i m σ H ⟨rfl, hi, p⟩
  have q := hl i σ H hi p
  by_cases hlt : i < kvs.length
  · refine .inr ⟨⟨q, hlt⟩, Pv (i + 1), fun σ1 H1 p1 => ⟨kvs.length - (i + 1), by omega, rfl, hlt, p1⟩, fun x H1 y => ?_⟩
    obtain ⟨T, k, v, e, rfl, nT, rfl⟩ := y
    exact hs i k v σ H T e p nT
  · have e : i = kvs.length := by omega
    subst e
    exact .inl ⟨⟨q, Nat.le_refl _⟩, hd σ H p⟩
end LK
namespace LK
open PySem PySem.Spec PyProof.Rows L2

abbrev sAll : Stmt := topS 29
theorem scAll : FnScope ["_law_archives_here", "_law_found", "_law_room", "_law_members", "_law_name", "_law_defines", "_law_needs_here"] ["_law_archives_here"] (defScope sAll) := ⟨rfl, rfl, rfl, by decide +kernel, rfl, by decide +kernel, by decide +kernel⟩
/-- a member with its room: what the law keeps of it -/
def rowD (a m : PyData) : PyData := .tuple [.str (nm0 a), .tuple (it1 m), .tuple (it2 m)]
def allD (as : List PyData) : List PyData := as.flatMap fun a => (it1 a).map fun m => rowD a m
theorem flatA_of : ∀ {ds : List PyData}, (∀ d ∈ ds, flatD d = true) → flatA ds = true
  | [], _ => rfl
  | d :: ds, h => by
    show (flatD d && flatA ds) = true
    rw [h d List.mem_cons_self, flatA_of fun x hx => h x (List.mem_cons_of_mem _ hx)]
    rfl
theorem row_flat {a m : PyData} (h : isMemberD m = true) : flatD (rowD a m) = true := by
  obtain ⟨n, ds, ns, rfl, _, h1, h2⟩ := isMember_sh h
  show (true && (flatA ds && (flatA ns && true))) = true
  rw [flat_strsA (syms_facts h1).1, flat_strsA (syms_facts h2).1]
  rfl
def spAll : Sp := fun vs H Q _ => ∃ (u : V) (as : List PyData), vs = [u] ∧ Dr H u (.tuple as) ∧ areArchivesL as = true ∧ ∀ (D : Addr) (es : List (Str × V)) (H2 : Hp), Same H H2 → H D = none → H2 D = some (.dK (KVs es)) → es.map (·.1) = (as.flatMap it1).map nm0 → DrAll H2 (es.map (·.2)) (allD as) → Q (.ref D) H2
section
variable {P : Program} {w : World} {K : PySem.W.Frag} {mg : Str → Option Value} {base : Heap}
theorem ok_All {f : Addr} {fd : FuncData} {k : Nat} (F : Fun K "_law_all_members" "_law_all_members" sAll f fd) (T : Bl mg) : FnOk P w K mg base CX0 (k + 1) f fd ["_law_archives_here"] spAll := by
  refine F.ok scAll (fun vs H Q E h => ?_) (fun cdv A outer s H vs Q E hr h => ?_)
  · obtain ⟨u, as, rfl, _⟩ := h
    rfl
  · obtain ⟨u, as, rfl, hu0, hok, q⟩ := h
    have hu1 : (A.deeper (envOfC "_law_all_members" (defScope sAll) s.heap.objs.size f cdv)).units + 1 < cLine := by have z := hu_of hr; omega
    have ksz : 5000 ≤ sizeLine := by decide
    refine ⟨_, (pss_cons (ps_set (i := 1) scAll.nd rfl (Or.inl rfl) pe_dnewK)
      (pss_cons (ps_for PassesOwn.never rfl (pi_tup (pv 0)) (pg_tup rfl (pgs_cons (pg_name (i := 2) scAll.nd rfl (Or.inl rfl)) (pgs_cons (pg_name (i := 3) scAll.nd rfl (Or.inl rfl)) pgs_nil)))
      (pss_one (ps_for PassesOwn.never rfl (pi_tup (pv 3)) (pg_tup rfl (pgs_cons (pg_name (i := 4) scAll.nd rfl (Or.inl rfl)) (pgs_cons (pg_name (i := 5) scAll.nd rfl (Or.inl rfl)) (pgs_cons (pg_name (i := 6) scAll.nd rfl (Or.inl rfl)) pgs_nil))))
      (pss_one (ps_dput hu1 (pv 1) (pv 4) (pe_tup (pa_cons (pv 2) (pa_cons (pv 5) (pa_cons (pv 6) pa_nil)))) rfl)))))
      (pss_one (ps_ret (pv 1))))), ?_⟩
    rw [show L2.start ["_law_archives_here", "_law_found", "_law_room", "_law_members", "_law_name", "_law_defines", "_law_needs_here"] [u] = [some u, none, none, none, none, none, none] from rfl]
    simp only [tSeq, tAsg, gName, tOp, tUn, tVar, tC, rI, rI0, tIfS, tTest, tCB, tCons, tNil, tRet, tRetN, tNext, tDrop, tLst, tTup, cxOf, rIxLH, rIxTH, gSub, rSetL, tAnd, tOr, tNot, tB, tIf, tCall, gTup, gCons, gNil, tPar, tAug, tAndV, tOrV, tNotV, upd_same, upd_upd, HO.lst.injEq, HO.tup.injEq, Option.some.injEq, V.int.injEq, V.ref.injEq, V.bl.injEq, V.str.injEq, List.cons.injEq, and_true, true_and, exists_eq_left', exists_eq_left, exists_and_left, exists_eq_right, exists_eq_right', List.set_cons_succ, List.set_cons_zero, List.getElem?_cons_zero, List.getElem?_cons_succ, List.cons_append, List.nil_append, List.append_nil, reduceCtorEq, false_and, and_false, exists_false, false_or, or_false, Int.reduceLT, Int.reduceLE, List.length_cons, List.length_nil, Nat.reduceAdd, implies_true, exists_const]
    obtain ⟨k1, k2, k3, k4, k5, k6⟩ := arch_facts hok
    cases hu0 with
    | tup ha hal =>
      rename_i a0 xs
      refine fun d nd => ?_
      have i0 := same_upd (o := .dK []) nd
      have hxl := hal.len
      have grow : ∀ {H1 : Hp} {es : List (Str × V)} {o : HO}, H1 d = some (.dK (KVs es)) → ∀ b xs, H1 b = some (.tup xs) → upd H1 d o b = some (.tup xs) := fun {H1 es o} h b xs e => by
        rw [upd_ne (ne_of e h (by intro z; cases z))]
        exact e
      refine ⟨_, rfl, a0, rfl, ⟨_, SqT.of (i0 _ _ ha)⟩, for_tup (xs := xs) (fun i σ H1 => ∃ (v2 v3 v4 v5 v6 : Option V) (es : List (Str × V)), σ = [some (.ref a0), some (.ref d), v2, v3, v4, v5, v6] ∧ Same H H1 ∧ H1 d = some (.dK (KVs es)) ∧ es.map (·.1) = ((as.take i).flatMap it1).map nm0 ∧ DrAll H1 (es.map (·.2)) (allD (as.take i)))
        ⟨_, _, _, _, _, [], rfl, i0, upd_same, rfl, .nil⟩ (fun i σ H1 hi hP => ?_) (fun i x σ H1 hx hP => ?_) (fun σ H1 hP => ?_)⟩
      · obtain ⟨v2, v3, v4, v5, v6, es, _, g2, _⟩ := hP
        exact SqT.of (g2 _ _ ha)
      · obtain ⟨v2, v3, v4, v5, v6, es, rfl, g2, g3, g4, g5⟩ := hP
        obtain ⟨ad, had, hdr⟩ := hal.get hx
        obtain ⟨z, ms, rfl, _, hms, _⟩ := isArchive_sh (List.all_eq_true.mp k1 ad (List.mem_of_getElem? had))
        have hdr1 := hdr.mono g2
        cases hdr1 with
        | tup hp hpl =>
          cases hpl with
          | cons d1 hpl =>
            cases hpl with
            | cons d2 hpl =>
              cases hpl
              cases d1
              cases d2 with
              | tup hq hql =>
                rename_i p q ys
                refine ⟨p, _, rfl, SqT.of hp, rfl, _, _, rfl, _, _, rfl, rfl, ?_⟩
                have etake : as.take (i + 1) = as.take i ++ [.tuple [.str z, .tuple ms]] := by
                  rw [List.take_add_one, had]
                  rfl
                have hyl := hql.len
                refine ⟨_, rfl, q, rfl, ⟨_, SqT.of hq⟩, for_tup (xs := ys) (fun j σ H2 => ∃ (v4 v5 v6 : Option V) (es2 : List (Str × V)), σ = [some (.ref a0), some (.ref d), some (.str z), some (.ref q), v4, v5, v6] ∧ Same H H2 ∧ (∀ b xs, H1 b = some (.tup xs) → H2 b = some (.tup xs)) ∧ H2 d = some (.dK (KVs es2)) ∧ es2.map (·.1) = ((as.take i).flatMap it1).map nm0 ++ (ms.take j).map nm0 ∧ DrAll H2 (es2.map (·.2)) (allD (as.take i) ++ (ms.take j).map (rowD (.tuple [.str z, .tuple ms]))))
                  ⟨_, _, _, es, rfl, g2, fun _ _ e => e, g3, by rw [g4]; simp, by simpa using g5⟩ (fun j σ H2 hj hP => ?_) (fun j y σ H2 hy hP => ?_) (fun σ H2 hP => ?_)⟩
                · obtain ⟨v4, v5, v6, es2, _, _, f3, _⟩ := hP
                  exact SqT.of (f3 _ _ hq)
                · obtain ⟨v4, v5, v6, es2, rfl, f2, f3, f4, f5, f6⟩ := hP
                  obtain ⟨m, hm, hmr⟩ := hql.get hy
                  have hmok := List.all_eq_true.mp hms m (List.mem_of_getElem? hm)
                  obtain ⟨n, ds, ns, rfl, hn0, hs1, hs2⟩ := isMember_sh hmok
                  have hfm : flatD (.tuple [.str n, .tuple ds, .tuple ns]) = true := by
                    have z1 := flat_members (ms := [.tuple [.str n, .tuple ds, .tuple ns]]) (by rw [List.all_cons, hmok]; rfl)
                    exact (Bool.and_eq_true_iff.mp z1).1
                  have hmr2 := hmr.tups f3 hfm
                  cases hmr2 with
                  | tup hp2 hpl2 =>
                    cases hpl2 with
                    | cons e1 hpl2 =>
                      cases hpl2 with
                      | cons e2 hpl2 =>
                        cases hpl2 with
                        | cons e3 hpl2 =>
                          cases hpl2
                          cases e1
                          rename_i p2 vb vc
                          refine ⟨p2, _, rfl, SqT.of hp2, rfl, _, _, rfl, _, _, rfl, _, _, rfl, rfl, ?_⟩
                          have hkey : n ∉ es2.map (·.1) := by
                            rw [f5]
                            have hsub : ((as.take i).flatMap it1).map nm0 ++ (ms.take j).map nm0 ++ [n] <+: (as.flatMap it1).map nm0 := by
                              have z1 : as = as.take i ++ (.tuple [.str z, .tuple ms] :: as.drop (i + 1)) := by
                                have lt : i < as.length := (List.getElem?_eq_some_iff.mp had).1
                                have e : as[i] = .tuple [.str z, .tuple ms] := by
                                  have h := List.getElem?_eq_getElem lt
                                  rw [had] at h
                                  exact (Option.some.inj h).symm
                                rw [← e, ← List.drop_eq_getElem_cons lt, List.take_append_drop]
                              have z2 : ms = ms.take j ++ (.tuple [.str n, .tuple ds, .tuple ns] :: ms.drop (j + 1)) := by
                                have lt : j < ms.length := (List.getElem?_eq_some_iff.mp hm).1
                                have e : ms[j] = .tuple [.str n, .tuple ds, .tuple ns] := by
                                  have h := List.getElem?_eq_getElem lt
                                  rw [hm] at h
                                  exact (Option.some.inj h).symm
                                rw [← e, ← List.drop_eq_getElem_cons lt, List.take_append_drop]
                              refine ⟨(ms.drop (j + 1)).map nm0 ++ ((as.drop (i + 1)).flatMap it1).map nm0, ?_⟩
                              conv => rhs; rw [z1, List.flatMap_append, List.flatMap_cons, List.map_append, List.map_append]
                              have z3 : (it1 (.tuple [.str z, .tuple ms])).map nm0 = (ms.take j).map nm0 ++ (n :: (ms.drop (j + 1)).map nm0) := by
                                show ms.map nm0 = _
                                conv => lhs; rw [z2]
                                rw [List.map_append, List.map_cons]
                                rfl
                              rw [z3]
                              simp only [List.append_assoc, List.cons_append, List.nil_append]
                            have hnod := hsub.sublist.nodup k5
                            intro hmem
                            rw [List.nodup_append] at hnod
                            exact hnod.2.2 _ hmem _ (List.mem_singleton.mpr rfl) rfl
                          have hel : es2.length ≤ 100 := by
                            have z1 := congrArg List.length f5
                            rw [List.length_map, List.length_append, List.length_map, List.length_map, List.length_take] at z1
                            have z2 : ((as.take i).flatMap it1).length ≤ (as.flatMap it1).length := by
                              conv => rhs; rw [← List.take_append_drop i as, List.flatMap_append, List.length_append]
                              exact Nat.le_add_right _ _
                            have z3 : ms.length ≤ (as.flatMap it1).length := by
                              have z4 : (it1 (.tuple [.str z, .tuple ms])).length ≤ (as.flatMap it1).length := (List.sublist_flatten_of_mem (List.mem_map (f := it1).mpr ⟨_, List.mem_of_getElem? had, rfl⟩)).length_le |> fun z => Nat.le_trans z (by rw [List.flatMap_def]; exact Nat.le_refl _)
                              exact z4
                            omega
                          refine ⟨_, rfl, _, rfl, _, rfl, (show 3 ≤ sizeLine by decide), fun t nt => ?_⟩
                          have jt := same_upd (o := .tup [V.str z, vb, vc]) nt
                          refine ⟨_, rfl, _, rfl, d, _, rfl, DPut.k (k := Sum.inr n) (jt _ _ f4) (by unfold KVs; rw [List.length_map]; omega), ?_⟩
                          rw [putK_new hkey]
                          have tp := grow (o := .dK (KVs (es2 ++ [(n, V.ref t)]))) (jt _ _ f4)
                          have emt : ms.take (j + 1) = ms.take j ++ [.tuple [.str n, .tuple ds, .tuple ns]] := by
                            rw [List.take_add_one, hm]
                            rfl
                          have hfl : flatA (allD (as.take i) ++ (ms.take j).map (rowD (.tuple [.str z, .tuple ms]))) = true := by
                            refine flatA_of fun x hx => ?_
                            rcases List.mem_append.mp hx with e | e
                            · obtain ⟨y, hy, e⟩ := List.mem_flatMap.mp e
                              obtain ⟨m2, hm2, rfl⟩ := List.mem_map.mp e
                              obtain ⟨z2, ms2, rfl, _, hms2, _⟩ := isArchive_sh (List.all_eq_true.mp k1 y (List.mem_of_mem_take hy))
                              exact row_flat (List.all_eq_true.mp hms2 m2 hm2)
                            · obtain ⟨m2, hm2, rfl⟩ := List.mem_map.mp e
                              exact row_flat (List.all_eq_true.mp hms m2 (List.mem_of_mem_take hm2))
                          refine ⟨_, _, _, _, rfl, same_updN (same_tr f2 jt) nd, fun b xs e => tp b xs (jt _ _ (f3 b xs e)), upd_same, ?_, ?_⟩
                          · rw [List.map_append, f5, emt, List.map_append, List.append_assoc]
                            rfl
                          · rw [List.map_append, emt, List.map_append, ← List.append_assoc]
                            refine DrAll.snoc ((f6.mono jt).tups tp hfl) ?_
                            refine .tup (tp _ _ upd_same) (.cons (.str z) (.cons ?_ (.cons ?_ .nil)))
                            · exact (e2.mono jt).tups tp (flat_strsA (syms_facts hs1).1)
                            · exact (e3.mono jt).tups tp (flat_strsA (syms_facts hs2).1)
                · obtain ⟨v4, v5, v6, es2, rfl, f2, f3, f4, f5, f6⟩ := hP
                  rw [hyl, List.take_length] at f5 f6
                  refine ⟨_, _, _, _, _, es2, rfl, f2, f4, ?_, ?_⟩
                  · rw [f5, etake, List.flatMap_append, List.map_append]
                    simp only [List.flatMap_cons, List.flatMap_nil, List.append_nil]
                    rfl
                  · have z1 : allD (as.take (i + 1)) = allD (as.take i) ++ ms.map (rowD (.tuple [.str z, .tuple ms])) := by
                      unfold allD
                      rw [etake, List.flatMap_append]
                      simp only [List.flatMap_cons, List.flatMap_nil, List.append_nil]
                      rfl
                    rw [z1]
                    exact f6
      · obtain ⟨v2, v3, v4, v5, v6, es, rfl, g2, g3, g4, g5⟩ := hP
        rw [hxl, List.take_length] at g4 g5
        exact ⟨_, rfl, q d es H1 g2 nd g3 g4 g5⟩
end
abbrev sMkr : Stmt := topS 30
theorem scMkr : FnScope ["_law_archives_here", "_law_found", "_law_name", "_law_room", "_law_defines", "_law_needs_here", "_law_symbol"] ["_law_archives_here"] (defScope sMkr) := ⟨rfl, rfl, rfl, by decide +kernel, rfl, by decide +kernel, by decide +kernel⟩
theorem allD_get : ∀ {as : List PyData} {i : Nat} {m : PyData}, (as.flatMap it1)[i]? = some m → ∃ a, (allD as)[i]? = some (rowD a m)
  | [], i, m, h => by simp at h
  | a :: as, i, m, h => by
    rw [List.flatMap_cons] at h
    show ∃ a1, ((it1 a).map (rowD a) ++ allD as)[i]? = some (rowD a1 m)
    by_cases lt : i < (it1 a).length
    · rw [List.getElem?_append_left lt] at h
      exact ⟨a, by rw [List.getElem?_append_left (by rw [List.length_map]; exact lt), List.getElem?_map, h]; rfl⟩
    · rw [List.getElem?_append_right (by omega)] at h
      obtain ⟨a1, h1⟩ := allD_get h
      exact ⟨a1, by rw [List.getElem?_append_right (by rw [List.length_map]; omega), List.length_map]; exact h1⟩
def spMkr : Sp := fun vs H Q _ => ∃ (u : V) (as : List PyData), vs = [u] ∧ Dr H u (.tuple as) ∧ areArchivesL as = true ∧ ∀ (D : Addr) (H2 : Hp), Same H H2 → H D = none → H2 D = some (.dK (KVs (srcOf (as.flatMap it1)))) → Q (.ref D) H2
section
variable {P : Program} {w : World} {K : PySem.W.Frag} {mg : Str → Option Value} {base : Heap}
theorem ok_Mkr {f : Addr} {fd : FuncData} {k : Nat} (F : Fun K "_law_makers" "_law_makers" sMkr f fd) (T : Bl mg) (LAll : Lnk P w K mg base "_law_all_members" k ["_law_archives_here"] spAll) : FnOk P w K mg base CX0 (k + 1) f fd ["_law_archives_here"] spMkr := by
  refine F.ok scMkr (fun vs H Q E h => ?_) (fun cdv A outer s H vs Q E hr h => ?_)
  · obtain ⟨u, as, rfl, _⟩ := h
    rfl
  · obtain ⟨u, as, rfl, hu0, hok, q⟩ := h
    have hu1 : (A.deeper (envOfC "_law_makers" (defScope sMkr) s.heap.objs.size f cdv)).units + 1 < cLine := by have z := hu_of hr; omega
    have ksz : 5000 ≤ sizeLine := by decide
    refine ⟨_, (pss_cons (ps_set (i := 1) scMkr.nd rfl (Or.inl rfl) pe_dnewK)
      (pss_cons (ps_for PassesOwn.never rfl (pi_items (pe_lockA (pe_lnk LAll hr rfl (pa_cons (pv 0) pa_nil)))) (pg_tup rfl (pgs_cons (pg_name (i := 2) scMkr.nd rfl (Or.inl rfl)) (pgs_cons (pg_tup rfl (pgs_cons (pg_name (i := 3) scMkr.nd rfl (Or.inl rfl)) (pgs_cons (pg_name (i := 4) scMkr.nd rfl (Or.inl rfl)) (pgs_cons (pg_name (i := 5) scMkr.nd rfl (Or.inl rfl)) pgs_nil)))) pgs_nil)))
      (pss_one (ps_for PassesOwn.never rfl (pi_tup (pv 4)) (pg_name (i := 6) scMkr.nd rfl (Or.inl rfl))
      (pss_one (ps_dput hu1 (pv 1) (pv 6) (pv 2) rfl)))))
      (pss_one (ps_ret (pv 1))))), ?_⟩
    rw [show L2.start ["_law_archives_here", "_law_found", "_law_name", "_law_room", "_law_defines", "_law_needs_here", "_law_symbol"] [u] = [some u, none, none, none, none, none, none] from rfl]
    simp only [tSeq, tAsg, gName, tOp, tUn, tVar, tC, rI, rI0, tIfS, tTest, tCB, tCons, tNil, tRet, tRetN, tNext, tDrop, tLst, tTup, cxOf, rIxLH, rIxTH, gSub, rSetL, tAnd, tOr, tNot, tB, tIf, tCall, gTup, gCons, gNil, tPar, tAug, tAndV, tOrV, tNotV, upd_same, upd_upd, HO.lst.injEq, HO.tup.injEq, Option.some.injEq, V.int.injEq, V.ref.injEq, V.bl.injEq, V.str.injEq, List.cons.injEq, and_true, true_and, exists_eq_left', exists_eq_left, exists_and_left, exists_eq_right, exists_eq_right', List.set_cons_succ, List.set_cons_zero, List.getElem?_cons_zero, List.getElem?_cons_succ, List.cons_append, List.nil_append, List.append_nil, reduceCtorEq, false_and, and_false, exists_false, false_or, or_false, Int.reduceLT, Int.reduceLE, List.length_cons, List.length_nil, Nat.reduceAdd, implies_true, exists_const]
    obtain ⟨k1, k2, k3, k4, k5, k6⟩ := arch_facts hok
    have k7 := src_len hok
    have mok := arc_mems k1
    refine fun d nd => ?_
    have i0 := same_upd (o := .dK []) nd
    refine ⟨_, rfl, u, as, rfl, hu0.mono i0, hok, fun E0 es H1 s1 nE hE e1 e2 => ⟨E0, _, rfl, hE, trivial, fun od => ⟨E0, od, _, rfl, upd_same, ?_⟩⟩⟩
    have nEd : E0 ≠ d := (none_upd nE).2
    have hd1 : H1 d = some (.dK []) := s1 _ _ upd_same
    have nE0 : H E0 = none := (none_upd nE).1
    have s2 : Same H (upd H1 E0 (.frz od (.dK (KVs es)))) := same_updN (same_tr i0 s1) nE0
    have el : es.length = (as.flatMap it1).length := by
      have z := congrArg List.length e1
      rw [List.length_map, List.length_map] at z
      exact z
    have tp : ∀ {G : Hp} {o o2 : HO} {b0 : Addr}, G b0 = some o → (∀ xs, o ≠ .tup xs) → ∀ b xs, G b = some (.tup xs) → upd G b0 o2 b = some (.tup xs) := fun {G o o2 b0} h hn b xs e => by
      rw [upd_ne (fun z => by rw [z, h] at e; exact hn xs (Option.some.inj e))]
      exact e
    have tp2 := tp (o2 := .frz od (.dK (KVs es))) hE (by intro xs z; cases z)
    refine for_items (kvs := KVs es) (fun i σ G => ∃ (v2 v3 v4 v5 v6 : Option V), σ = [some u, some (.ref d), v2, v3, v4, v5, v6] ∧ Same H G ∧ (∀ b xs, H1 b = some (.tup xs) → G b = some (.tup xs)) ∧ G E0 = some (.frz od (.dK (KVs es))) ∧ G d = some (.dK (KVs (srcOf ((as.flatMap it1).take i)))))
      ⟨_, _, _, _, _, rfl, s2, tp2, upd_same, by rw [upd_ne nEd.symm]; exact hd1⟩ (fun i σ G hi hP => ?_) (fun i kk v σ G T0 hkv hP nT0 => ?_) (fun σ G hP => ?_)
    · obtain ⟨_, _, _, _, _, _, _, _, g4, _⟩ := hP
      exact g4
    · obtain ⟨v2, v3, v4, v5, v6, rfl, g2, g3, g4, g5⟩ := hP
      unfold KVs at hkv
      rw [List.getElem?_map] at hkv
      cases hes : es[i]? with
      | none =>
        rw [hes] at hkv
        cases hkv
      | some e =>
        rw [hes] at hkv
        cases hkv
        have hei : (es.map (·.2))[i]? = some e.2 := by
          rw [List.getElem?_map, hes]
          rfl
        obtain ⟨rd, hrd, hdr⟩ := e2.get hei
        have him : i < (as.flatMap it1).length := by
          rw [← el]
          exact (List.getElem?_eq_some_iff.mp hes).1
        obtain ⟨m, hm⟩ : ∃ m, (as.flatMap it1)[i]? = some m := ⟨_, List.getElem?_eq_getElem him⟩
        obtain ⟨ad, had⟩ := allD_get hm
        rw [had] at hrd
        cases hrd
        have en : e.1 = nm0 m := by
          have z := congrArg (fun l => l[i]?) e1
          simp only [List.getElem?_map, hes, hm] at z
          exact Option.some.inj z
        have hmok := List.all_eq_true.mp mok m (List.mem_of_getElem? hm)
        have hdr2 := hdr.tups g3 (row_flat hmok)
        have hsy : it1 m = (namesD (it1 m)).map PyData.str := by
          obtain ⟨n, ds, ns, rfl, _, h1, _⟩ := isMember_sh hmok
          exact (syms_facts h1).1
        have hsl := (ned_len hmok).2
        obtain ⟨e_1, e_2⟩ := e
        have en : e_1 = nm0 m := en
        subst en
        cases hdr2 with
        | tup hp hpl =>
          cases hpl with
          | cons c1 hpl =>
            cases hpl with
            | cons c2 hpl =>
              cases hpl with
              | cons c3 hpl =>
                cases hpl
                cases c1
                cases c2 with
                | tup hb hbl =>
                  rename_i p vc b ys
                  rw [hsy] at hbl
                  have ey := hbl.strs
                  subst ey
                  have j0 := same_upd (o := .tup [V.str (nm0 m), V.ref p]) nT0
                  refine ⟨T0, _, rfl, SqT.of upd_same, rfl, _, _, rfl, _, _, rfl, p, _, rfl, SqT.of (j0 _ _ hp), rfl, _, _, rfl, _, _, rfl, _, _, rfl, rfl, rfl, ?_⟩
                  have etake : srcOf ((as.flatMap it1).take (i + 1)) = srcOf ((as.flatMap it1).take i) ++ (namesD (it1 m)).map fun s => (s, V.str (nm0 m)) := by
                    unfold srcOf
                    rw [List.take_add_one, hm, List.flatMap_append]
                    simp only [Option.toList_some, List.flatMap_cons, List.flatMap_nil, List.append_nil]
                  have hpre : srcOf ((as.flatMap it1).take (i + 1)) <+: srcOf (as.flatMap it1) := by
                    refine ⟨srcOf ((as.flatMap it1).drop (i + 1)), ?_⟩
                    unfold srcOf
                    rw [← List.flatMap_append, List.take_append_drop]
                  rw [etake] at hpre
                  have hplen := hpre.length_le
                  rw [List.length_append, List.length_map] at hplen
                  refine ⟨_, rfl, b, rfl, ⟨_, SqT.of (j0 _ _ hb)⟩, for_tup (xs := (namesD (it1 m)).map V.str) (fun j σ G2 => ∃ (v6 : Option V), σ = [some u, some (.ref d), some (.str (nm0 m)), some (.str (nm0 ad)), some (.ref b), some vc, v6] ∧ Same H G2 ∧ (∀ b xs, H1 b = some (.tup xs) → G2 b = some (.tup xs)) ∧ G2 E0 = some (.frz od (.dK (KVs es))) ∧ G2 b = some (.tup ((namesD (it1 m)).map V.str)) ∧ G2 d = some (.dK (KVs (srcOf ((as.flatMap it1).take i) ++ ((namesD (it1 m)).take j).map fun s => (s, V.str (nm0 m))))))
                    ⟨_, rfl, same_tr g2 j0, fun b xs e => j0 _ _ (g3 b xs e), j0 _ _ g4, j0 _ _ hb, (j0 _ _ g5).trans (by simp)⟩ (fun j σ G2 hj hP => ?_) (fun j y σ G2 hy hP => ?_) (fun σ G2 hP => ?_)⟩
                  · obtain ⟨_, _, _, _, _, f5, _⟩ := hP
                    exact SqT.of f5
                  · obtain ⟨v6, rfl, f2, f3, f4, f5, f6⟩ := hP
                    rw [List.getElem?_map] at hy
                    cases hs0 : (namesD (it1 m))[j]? with
                    | none =>
                      rw [hs0] at hy
                      cases hy
                    | some sy =>
                      rw [hs0] at hy
                      cases hy
                      have etk : (namesD (it1 m)).take (j + 1) = (namesD (it1 m)).take j ++ [sy] := by
                        rw [List.take_add_one, hs0]
                        rfl
                      have hkey : sy ∉ (srcOf ((as.flatMap it1).take i) ++ ((namesD (it1 m)).take j).map fun s => (s, V.str (nm0 m))).map (·.1) := by
                        have hp2 : (srcOf ((as.flatMap it1).take i) ++ ((namesD (it1 m)).take j).map (fun s => (s, V.str (nm0 m)))) ++ [(sy, V.str (nm0 m))] <+: srcOf (as.flatMap it1) := by
                          refine List.IsPrefix.trans ⟨((namesD (it1 m)).drop (j + 1)).map (fun s => (s, V.str (nm0 m))), ?_⟩ hpre
                          have z := congrArg (fun l => l.map (fun s => (s, V.str (nm0 m)))) (List.take_append_drop (j + 1) (namesD (it1 m)))
                          simp only [etk, List.map_append, List.map_cons, List.map_nil] at z
                          conv => rhs; rw [← z]
                          simp only [List.append_assoc]
                        have hnod := (hp2.sublist.map (·.1)).nodup k6
                        intro hmem
                        rw [List.map_append, List.nodup_append] at hnod
                        exact hnod.2.2 _ hmem _ (List.mem_singleton.mpr rfl) rfl
                      refine ⟨_, rfl, _, rfl, _, rfl, d, _, rfl, DPut.k (k := Sum.inr sy) f6 ?_, ?_⟩
                      · unfold KVs
                        rw [List.length_map, List.length_append, List.length_map, List.length_take]
                        omega
                      · rw [putK_new hkey]
                        have tp3 := tp (o2 := .dK (KVs ((srcOf ((as.flatMap it1).take i) ++ ((namesD (it1 m)).take j).map fun s => (s, V.str (nm0 m))) ++ [(sy, V.str (nm0 m))]))) f6 (by intro xs z; cases z)
                        refine ⟨_, rfl, same_updN f2 nd, fun b xs e => tp3 b xs (f3 b xs e), by rw [upd_ne nEd]; exact f4, tp3 _ _ f5, ?_⟩
                        rw [upd_same, etk, List.map_append, List.append_assoc]
                        rfl
                  · obtain ⟨v6, rfl, f2, f3, f4, f5, f6⟩ := hP
                    rw [List.length_map, List.take_length, ← etake] at f6
                    exact ⟨_, _, _, _, _, rfl, f2, f3, f4, f6⟩
    · obtain ⟨v2, v3, v4, v5, v6, rfl, g2, g3, g4, g5⟩ := hP
      rw [show (KVs es).length = (as.flatMap it1).length by unfold KVs; rw [List.length_map]; exact el, List.take_length] at g5
      exact ⟨_, rfl, q d G g2 nd g5⟩
end
abbrev sPrg : Stmt := topS 31
theorem scPrg : FnScope ["_law_well_here", "_law_archives_here", "_law_some", "_law_defines", "_law_turn", "_law_needs_here"] ["_law_well_here", "_law_archives_here"] (defScope sPrg) := ⟨rfl, rfl, rfl, by decide +kernel, rfl, by decide +kernel, by decide +kernel⟩
theorem src_names {ms : List PyData} (h : ms.all isMemberD = true) : ((srcOf ms).map (·.1)).all isNameS = true := by
  rw [src_keys, List.all_eq_true]
  intro z hz
  obtain ⟨l, hl, h1⟩ := List.mem_flatten.mp hz
  obtain ⟨m, hm, rfl⟩ := List.mem_map.mp hl
  obtain ⟨_, ds, ns, rfl, _, h2, _⟩ := isMember_sh (List.all_eq_true.mp h m hm)
  exact List.all_eq_true.mp (syms_facts h2).2.2.2 z h1
/-- [pick(well, some) for turn in range(n)] -/
theorem comp_pick {σ : L2.St} {H : Hp} {a p : Addr} {N j1 j2 i b : Nat} {ss : List Str} {te : TE} {E : XK} {R : VK} (ht : ∀ Q : VK, (∀ (n : Nat) (H1 : Hp), n ≤ b → Sab a H H1 → WellAt H1 a (N + 1) → Q (.int (n : Nat)) H1) → te σ H Q)
    (hp : H p = some (.lst (ss.map V.str))) (hpa : p ≠ a) (hne : ss ≠ []) (hsl : ss.length < 1000) (hN : N ≤ 2 ^ 39) (hb : b ≤ 1000)
    (hw : ∀ x, wipe ((wipe σ [i]).set i (some x)) [i] = wipe σ [i]) (h1 : ∀ x : V, ((wipe σ [i]).set i (some x))[j1]? = some (some (.ref a))) (h2 : ∀ x : V, ((wipe σ [i]).set i (some x))[j2]? = some (some (.ref p)))
    (k : ∀ (D : Addr) (H2 : Hp) (zs : List Str), (∀ z ∈ zs, z ∈ ss) → zs.length ≤ b → Sab a H H2 → WellAt H2 a (N + 1 + b) → H D = none → H2 D = some (.lst (zs.map V.str)) → R (.ref D) H2) :
    tLc (iRng1 (tCons te tNil)) (gName i) tYes (tCall spPick [] E (tCons (tVar j1) (tCons (tVar j2) tNil))) [i] σ H R := by
  have ksz : 5000 ≤ sizeLine := by decide
  refine ht _ fun n H1 hn s1 w1 => ⟨(n : Nat), rfl, by omega, by omega, fun D nD => ?_⟩
  have nDa : D ≠ a := fun z => by
    obtain ⟨_, h3⟩ := w1.some
    rw [z, h3] at nD
    cases nD
  have nD0 : H D = none := none_of_sab s1 nD nDa
  refine lc_range (lo := 0) (n := n) (fun t H2 => ∃ zs : List Str, zs.length = t ∧ (∀ z ∈ zs, z ∈ ss) ∧ Sab a H H2 ∧ WellAt H2 a (N + 1 + t) ∧ H2 D = some (.lst (zs.map V.str))) ⟨[], rfl, fun z hz => (nomatch hz), sab_updN s1 nD0, ?_, upd_same⟩ (fun t H2 lt hP => ?_) (fun H2 hP => ?_)
  · obtain ⟨o, c, m, g1, g2⟩ := w1
    exact ⟨o, c, m, by rw [upd_ne nDa.symm]; exact g1, g2⟩
  · obtain ⟨zs, rfl, g1, g2, g3, g4⟩ := hP
    refine ⟨hw _, _, h1 _, _, h2 _, a, p, N + 1 + zs.length, _, rfl, g3, by omega, hpa, g2 _ _ hpa hp, by rw [Ne, List.map_eq_nil_iff]; exact hne, by rw [List.length_map]; omega, fun j v H3 hv s3 w3 => ?_⟩
    rw [List.getElem?_map] at hv
    cases hz : ss[j]? with
    | none =>
      rw [hz] at hv
      cases hv
    | some z =>
      rw [hz] at hv
      cases hv
      refine ⟨_, s3 _ _ nDa g4, by rw [List.length_map]; omega, zs ++ [z], by rw [List.length_append]; rfl, fun y hy => ?_, sab_updN (g2.trans s3) nD0, ?_, ?_⟩
      · rcases List.mem_append.mp hy with e | e
        · exact g1 y e
        · rw [List.mem_singleton.mp e]
          exact List.mem_of_getElem? hz
      · obtain ⟨o, c, m, g1, g2⟩ := w3
        exact ⟨o, c, m, by rw [upd_ne nDa.symm]; exact g1, g2⟩
      · rw [upd_same, List.map_append]
        rfl
  · obtain ⟨zs, rfl, g1, g2, g3, g4⟩ := hP
    exact k D H2 zs g1 hn g2 (g3.le (by omega)) nD0 g4
def spPrg : Sp := fun vs H Q _ => ∃ (a : Addr) (N : Nat) (u : V) (as : List PyData), vs = [.ref a, u] ∧ WellAt H a N ∧ N ≤ 2 ^ 38 ∧ Dr H u (.tuple as) ∧ areArchivesL as = true ∧ (srcOf (as.flatMap it1)).length < 64 ∧
  ∀ (ds ns : List Str) (v : V) (H2 : Hp), ds.all isNameS = true → ascS ds = true → ds.length ≤ 4 → ns.all isNameS = true → ascS ns = true → ns.length ≤ 4 → Sab a H H2 → WellAt H2 a (N + 10) → Dr H2 v (.tuple [strsD ds, strsD ns]) → Q v H2
section
variable {P : Program} {w : World} {K : PySem.W.Frag} {mg : Str → Option Value} {base : Heap}
theorem ok_Prg {f : Addr} {fd : FuncData} {k : Nat} (F : Fun K "_law_program" "_law_program" sPrg f fd) (T : Bl mg) (LPick : Lnk P w K mg base "_law_pick" k ["_law_well_here", "_law_some"] spPick) (LMkr : Lnk P w K mg base "_law_makers" k ["_law_archives_here"] spMkr) : FnOk P w K mg base CX0 (k + 1) f fd ["_law_well_here", "_law_archives_here"] spPrg := by
  refine F.ok scPrg (fun vs H Q E h => ?_) (fun cdv A outer s H vs Q E hr h => ?_)
  · obtain ⟨a, N, u, as, rfl, _⟩ := h
    rfl
  · obtain ⟨a, N, u, as, rfl, hw, hN, hu0, hok, h64, q⟩ := h
    have hu : (A.deeper (envOfC "_law_program" (defScope sPrg) s.heap.objs.size f cdv)).units + 64 < cLine := hr.units
    have ksz : 5000 ≤ sizeLine := by decide
    have ksc : 3000 < scanBound := by decide
    refine ⟨_, (pss_cons (ps_set (i := 2) scPrg.nd rfl (Or.inr rfl) (pe_op op_cat (pe_callB (call_sortedD rfl) (by rfl) T.sorted (by decide +kernel) (pa_cons (pe_lnk LMkr hr rfl (pa_cons (pv 1) pa_nil)) pa_nil)) (pe_lst (pa_cons pe_str (pa_cons pe_str pa_nil)))))
      (pss_cons (ps_setLc (i := 3) (own := [("_law_turn", 4)]) rfl scPrg.nd rfl rfl (sw_true rfl rfl rfl (by decide +kernel)) (pi_range1 rfl T.range (pa_cons (pe_lnk LPick hr rfl (pa_cons (pv 0) (pa_cons (pe_lst (pa_cons pe_int (pa_cons pe_int (pa_cons pe_int (pa_cons pe_int (pa_cons pe_int pa_nil)))))) pa_nil))) pa_nil)) (blkOk_by (N := ["_law_well_here", "_law_archives_here", "_law_some", "_law_defines", "_law_turn", "_law_needs_here"]) (sc := defScope sPrg) (by decide +kernel)) (fun _ _ _ _ _ => (pg_name (i := 4) scPrg.nd rfl (Or.inl rfl))) (fun _ _ _ _ _ => pts_nil) (fun _ _ _ _ _ => (pe_lnk LPick hr rfl (pa_cons (pv 0) (pa_cons (pv 2) pa_nil)))))
      (pss_cons (ps_setLc (i := 5) (own := [("_law_turn", 4)]) rfl scPrg.nd rfl rfl (sw_true rfl rfl rfl (by decide +kernel)) (pi_range1 rfl T.range (pa_cons (pe_lnk LPick hr rfl (pa_cons (pv 0) (pa_cons (pe_lst (pa_cons pe_int (pa_cons pe_int (pa_cons pe_int (pa_cons pe_int (pa_cons pe_int pa_nil)))))) pa_nil))) pa_nil)) (blkOk_by (N := ["_law_well_here", "_law_archives_here", "_law_some", "_law_defines", "_law_turn", "_law_needs_here"]) (sc := defScope sPrg) (by decide +kernel)) (fun _ _ _ _ _ => (pg_name (i := 4) scPrg.nd rfl (Or.inl rfl))) (fun _ _ _ _ _ => pts_nil) (fun _ _ _ _ _ => (pe_lnk LPick hr rfl (pa_cons (pv 0) (pa_cons (pv 2) pa_nil)))))
      (pss_one (ps_ret (pe_tup (pa_cons (pe_callTy call_tuple_of (by rfl) T.tuple (by decide +kernel) (pa_cons (pe_callB (cr_sortedT rfl hu) (by rfl) T.sorted (by decide +kernel) (pa_cons (pe_callTy (call_setOfT rfl) (by rfl) T.set (by decide +kernel) (pa_cons (pv 3) pa_nil)) pa_nil)) pa_nil)) (pa_cons (pe_callTy call_tuple_of (by rfl) T.tuple (by decide +kernel) (pa_cons (pe_callB (cr_sortedT rfl hu) (by rfl) T.sorted (by decide +kernel) (pa_cons (pe_callTy (call_setOfT rfl) (by rfl) T.set (by decide +kernel) (pa_cons (pv 5) pa_nil)) pa_nil)) pa_nil)) pa_nil)))))))), ?_⟩
    rw [show L2.start ["_law_well_here", "_law_archives_here", "_law_some", "_law_defines", "_law_turn", "_law_needs_here"] [.ref a, u] = [some (.ref a), some u, none, none, none, none] from rfl]
    simp only [tSeq, tAsg, gName, tOp, tUn, tVar, tC, rI, rI0, tIfS, tTest, tCB, tCons, tNil, tRet, tRetN, tNext, tDrop, tLst, tTup, cxOf, rIxLH, rIxTH, gSub, rSetL, tAnd, tOr, tNot, tB, tIf, tCall, gTup, gCons, gNil, tPar, tAug, tAndV, tOrV, tNotV, upd_same, upd_upd, HO.lst.injEq, HO.tup.injEq, Option.some.injEq, V.int.injEq, V.ref.injEq, V.bl.injEq, V.str.injEq, List.cons.injEq, and_true, true_and, exists_eq_left', exists_eq_left, exists_and_left, exists_eq_right, exists_eq_right', List.set_cons_succ, List.set_cons_zero, List.getElem?_cons_zero, List.getElem?_cons_succ, List.cons_append, List.nil_append, List.append_nil, reduceCtorEq, false_and, and_false, exists_false, false_or, or_false, Int.reduceLT, Int.reduceLE, List.length_cons, List.length_nil, Nat.reduceAdd, implies_true, exists_const]
    obtain ⟨k1, k2, k3, k4, k5, k6⟩ := arch_facts hok
    have mok := arc_mems k1
    have nea : ∀ {H1 : Hp} {n : Nat} {b : Addr}, WellAt H1 a n → H1 b = none → b ≠ a := fun {H1 n b} h1 h2 z => by
      obtain ⟨_, h3⟩ := h1.some
      rw [z, h3] at h2
      cases h2
    refine ⟨u, as, rfl, hu0, hok, fun D H1 s1 nD hD => ⟨D, rfl, _, .inl hD, (srcOf (as.flatMap it1)).map (·.1), ?_, by rw [List.length_map]; exact h64, fun ys p1 hp1 hs1 np1 => ⟨by decide, fun p2 np2 => ?_⟩⟩⟩
    · unfold KVs
      rw [List.map_map, List.map_map]
      rfl
    have j1 := same_upd (o := .lst (ys.map V.str)) np1
    have j2 := same_upd (o := .lst [V.str "unknown", V.str "other"]) np2
    have yl : ys.length < 64 := by
      rw [hp1.length_eq, List.length_map]
      exact h64
    refine cat_use (j2 _ _ upd_same) upd_same (by rw [List.length_map]; show _ + 2 ≤ _; omega) (fun p3 np3 => ?_)
    have j3 := same_upd (o := .lst (ys.map V.str ++ [V.str "unknown", V.str "other"])) np3
    have es : ys.map V.str ++ [V.str "unknown", V.str "other"] = (ys ++ [("unknown" : Str), "other"]).map V.str := by
      rw [List.map_append]
      rfl
    rw [es] at j3 ⊢
    have sok : (ys ++ [("unknown" : Str), "other"]).all isNameS = true := by
      rw [List.all_append, Bool.and_eq_true]
      refine ⟨?_, by decide +kernel⟩
      rw [List.all_eq_true]
      exact fun z hz => List.all_eq_true.mp (src_names mok) z (hp1.mem_iff.mp hz)
    have sl : (ys ++ [("unknown" : Str), "other"]).length < 100 := by
      rw [List.length_append]
      show _ + 2 < 100
      omega
    have sne : (ys ++ [("unknown" : Str), "other"]) ≠ [] := by simp
    generalize (ys ++ [("unknown" : Str), "other"]) = ss at j3 sok sl sne ⊢
    have jj := same_tr s1 (same_tr j1 (same_tr j2 j3))
    have w3 := hw.mono jj
    have np3a : p3 ≠ a := nea (hw.mono (same_tr s1 (same_tr j1 j2))) np3
    generalize hG : upd (upd (upd H1 p1 (.lst (ys.map V.str))) p2 (.lst [V.str "unknown", V.str "other"])) p3 (.lst (ss.map V.str)) = G3 at jj w3 ⊢
    have hp3 : G3 p3 = some (.lst (ss.map V.str)) := by
      rw [← hG]
      exact upd_same
    have small : ∀ (G : Hp) (Nn : Nat) (xs : List Nat) (L : Addr) (σ : L2.St), WellAt G a Nn → Nn ≤ 2 ^ 39 → G L = none → xs ≠ [] → xs.length < 100 → (∀ x ∈ xs, x ≤ 4) → ∀ Q : VK, (∀ (n : Nat) (H1 : Hp), n ≤ 4 → Sab a G H1 → WellAt H1 a (Nn + 1) → Q (.int (n : Nat)) H1) → spPick [.ref a, .ref L] (upd G L (.lst (xs.map fun x : Nat => V.int (x : Nat)))) Q (fun _ _ _ => False) := by
      intro G Nn xs L σ hw0 hN0 nL hne hl h4 Q hQ
      have jL := same_upd (o := .lst (xs.map fun x : Nat => V.int (x : Nat))) nL
      refine ⟨a, L, Nn, _, rfl, hw0.mono jL, by omega, nea hw0 nL, upd_same, by rw [Ne, List.map_eq_nil_iff]; exact hne, by rw [List.length_map]; omega, fun i v H4 hv s4 w4 => ?_⟩
      rw [List.getElem?_map] at hv
      cases hxi : xs[i]? with
      | none =>
        rw [hxi] at hv
        cases hv
      | some m =>
        rw [hxi] at hv
        cases hv
        exact hQ m H4 (h4 m (List.mem_of_getElem? hxi)) ((sab_of jL).trans s4) w4
    refine comp_pick (N := N) (b := 4) (ss := ss) (fun Q hQ => ⟨_, rfl, by decide, fun L nL => small G3 N [0, 0, 1, 2, 4] L [] w3 (by omega) nL (by decide) (by decide) (by decide) Q hQ⟩) hp3 np3a sne (by omega) (by omega) (by decide) (fun _ => rfl) (fun _ => rfl) (fun _ => rfl) (fun D1 G4 zs hzs hzl s4 w4 nD1 hD1 => ?_)
    have hp34 := s4 _ _ np3a hp3
    refine comp_pick (N := N + 5) (b := 4) (ss := ss) (fun Q hQ => ⟨_, rfl, by decide, fun L nL => small G4 (N + 5) [0, 1, 1, 2, 3] L [] w4 (by omega) nL (by decide) (by decide) (by decide) Q hQ⟩) hp34 np3a sne (by omega) (by omega) (by decide) (fun _ => rfl) (fun _ => rfl) (fun _ => rfl) (fun D2 G5 ys2 hys hyl s5 w5 nD2 hD2 => ?_)
    have nD1a : D1 ≠ a := nea w3 nD1
    have hD15 := s5 _ _ nD1a hD1
    refine ⟨D1, zs, rfl, .inl hD15, by omega, fun S1 nS1 => ⟨S1, _, rfl, upd_same, fun l1 nl1 => ⟨l1, rfl, _, .inl ⟨SqL.of upd_same, fun q1 nq1 => ?_⟩⟩⟩⟩
    have b1 := same_upd (o := SetT w S1 (firsts zs)) nS1
    have b2 := same_upd (o := .lst ((sortS (firsts zs)).map V.str)) nl1
    have b3 := same_upd (o := .tup ((sortS (firsts zs)).map V.str)) nq1
    have bb := same_tr b1 (same_tr b2 b3)
    refine ⟨D2, ys2, rfl, .inl (bb _ _ hD2), by omega, fun S2 nS2 => ⟨S2, _, rfl, upd_same, fun l2 nl2 => ⟨l2, rfl, _, .inl ⟨SqL.of upd_same, fun q2 nq2 => ⟨by decide, fun q3 nq3 => ?_⟩⟩⟩⟩⟩
    have c1 := same_upd (o := SetT w S2 (firsts ys2)) nS2
    have c2 := same_upd (o := .lst ((sortS (firsts ys2)).map V.str)) nl2
    have c3 := same_upd (o := .tup ((sortS (firsts ys2)).map V.str)) nq2
    have c4 := same_upd (o := .tup [V.ref q1, V.ref q2]) nq3
    have cc := same_tr c1 (same_tr c2 c3)
    have fok : ∀ ws : List Str, (∀ z ∈ ws, z ∈ ss) → ws.length ≤ 4 → (sortS (firsts ws)).all isNameS = true ∧ ascS (sortS (firsts ws)) = true ∧ (sortS (firsts ws)).length ≤ 4 := by
      intro ws h1 h2
      have h3 := firsts_len ws
      refine ⟨?_, ?_, by rw [(sortS_perm _).length_eq]; omega⟩
      · rw [List.all_eq_true]
        exact fun z hz => List.all_eq_true.mp sok z (h1 z (mem_firsts.mp ((sortS_perm _).mem_iff.mp hz)))
      · refine asc_sort ?_
        unfold firsts
        have z : ∀ (zs L : List Str), L.Nodup → (zs.foldl ins L).Nodup := by
          intro zs
          induction zs with
          | nil => exact fun L h => h
          | cons a zs ih => exact fun L h => ih _ (ins_nodup h)
        exact z ws [] List.nodup_nil
    obtain ⟨o1, o2, o3⟩ := fok zs hzs hzl
    obtain ⟨o4, o5, o6⟩ := fok ys2 hys hyl
    have sF := ((show Sab a H G3 from sab_of jj) |> fun z => Sab.trans z (s4.trans (s5.trans ((sab_of bb).trans ((sab_of cc).trans (sab_of c4))))))
    exact q _ _ _ _ o1 o2 o3 o4 o5 o6 sF ((((w5.mono bb).mono cc).mono c4).le (by omega)) (.tup upd_same (.cons (.tup (c4 _ _ (cc _ _ upd_same)) (dr_strs _)) (.cons (.tup (c4 _ _ upd_same) (dr_strs _)) .nil)))
end

end LK
namespace LK
open PySem PySem.Spec PyProof.Rows L2
/-! ### what a closure is -/
def defsOf (ms : List PyData) (n : Str) : List Str := namesD (it1 (memF ms (.str n)))
theorem memF_of {ms : List PyData} (nd : (ms.map nm0).Nodup) {m : PyData} (h : m ∈ ms) : memF ms (.str (nm0 m)) = m := by
  obtain ⟨h1, h2⟩ := memF_mem (List.mem_map.mpr ⟨m, h, rfl⟩)
  obtain ⟨i, hi⟩ := List.getElem?_of_mem h1
  obtain ⟨j, hj⟩ := List.getElem?_of_mem h
  have e : i = j := nodup_inj nd (by rw [List.getElem?_map, hi]; rfl) (by rw [List.getElem?_map, hj, h2]; rfl)
  subst e
  rw [hi] at hj
  exact Option.some.inj hj
theorem lookup_mem {L : List (Str × Str)} (nd : (L.map (·.1)).Nodup) {s n : Str} : L.lookup s = some n ↔ (s, n) ∈ L := by
  induction L with
  | nil => simp
  | cons p L ih =>
    obtain ⟨a, b⟩ := p
    rw [List.map_cons, List.nodup_cons] at nd
    rw [List.lookup, List.mem_cons]
    cases e : s == a with
    | true =>
      rw [beq_iff_eq] at e
      subst e
      constructor
      · intro h
        cases h
        exact .inl rfl
      · rintro (h | h)
        · cases h
          rfl
        · exact absurd (List.mem_map.mpr ⟨(s, n), h, rfl⟩) nd.1
    | false =>
      rw [ih nd.2]
      constructor
      · exact .inr
      · rintro (h | h)
        · cases h
          rw [beq_self_eq_true] at e
          cases e
        · exact h
structure LibF (ms : List PyData) : Prop where
  mem : ms.all isMemberD = true
  nam : (ms.map nm0).Nodup
  src : ((srcS ms).map (·.1)).Nodup
  few : ms.length ≤ 24
theorem libF_of {as : List PyData} (h : areArchivesL as = true) : LibF (as.flatMap it1) := by
  obtain ⟨k1, k2, k3, k4, k5, k6⟩ := arch_facts h
  refine ⟨arc_mems k1, k5, ?_, k4⟩
  rw [src_str] at k6
  unfold strV at k6
  rw [List.map_map] at k6
  exact k6
section
variable {ms : List PyData} {defs needs : List Str}
theorem look_iff (F : LibF ms) {s n : Str} : (srcS ms).lookup s = some n ↔ n ∈ ms.map nm0 ∧ s ∈ defsOf ms n := by
  rw [lookup_mem F.src]
  constructor
  · intro h
    unfold srcS at h
    obtain ⟨m, hm, h1⟩ := List.mem_flatMap.mp h
    obtain ⟨t, ht, e⟩ := List.mem_map.mp h1
    cases e
    refine ⟨List.mem_map.mpr ⟨m, hm, rfl⟩, ?_⟩
    unfold defsOf
    rw [memF_of F.nam hm]
    exact ht
  · rintro ⟨h1, h2⟩
    obtain ⟨g1, g2⟩ := memF_mem h1
    unfold srcS
    refine List.mem_flatMap.mpr ⟨memF ms (.str n), g1, List.mem_map.mpr ⟨s, h2, ?_⟩⟩
    rw [g2]
/-- what is needed once X is there -/
def neededL (ms : List PyData) (defs needs X : List Str) : List Str := (needs ++ X.flatMap (ned ms)).filter fun s => !decide (s ∈ defs)
def stepF (ms : List PyData) (defs needs X : List Str) : List Str := (sortS (ms.map nm0)).filter fun n => (defsOf ms n).any fun s => decide (s ∈ neededL ms defs needs X)
theorem mem_needed {X : List Str} {s : Str} : s ∈ neededL ms defs needs X ↔ (s ∈ needs ∨ ∃ m ∈ X, s ∈ ned ms m) ∧ s ∉ defs := by
  unfold neededL
  rw [List.mem_filter, List.mem_append, List.mem_flatMap]
  simp
theorem mem_step (F : LibF ms) {X : List Str} {n : Str} : n ∈ stepF ms defs needs X ↔ ∃ s, (srcS ms).lookup s = some n ∧ s ∈ neededL ms defs needs X := by
  unfold stepF
  rw [List.mem_filter, (sortS_perm _).mem_iff, List.any_eq_true]
  constructor
  · rintro ⟨h1, s, h2, h3⟩
    exact ⟨s, (look_iff F).mpr ⟨h1, h2⟩, of_decide_eq_true h3⟩
  · rintro ⟨s, h1, h2⟩
    obtain ⟨h3, h4⟩ := (look_iff F).mp h1
    exact ⟨h3, s, h4, decide_eq_true h2⟩
theorem step_mono {X Y : List Str} (F : LibF ms) (h : ∀ n ∈ X, n ∈ Y) : ∀ n ∈ stepF ms defs needs X, n ∈ stepF ms defs needs Y := fun n hn => by
  obtain ⟨s, h1, h2⟩ := (mem_step F).mp hn
  obtain ⟨h3, h4⟩ := mem_needed.mp h2
  refine (mem_step F).mpr ⟨s, h1, mem_needed.mpr ⟨?_, h4⟩⟩
  rcases h3 with h3 | ⟨m, hm, h5⟩
  · exact .inl h3
  · exact .inr ⟨m, h m hm, h5⟩
/-- the walk stays within what is closed -/
theorem clos_le (F : LibF ms) {C : List Str} (hc : ∀ n ∈ stepF ms defs needs C, n ∈ C) : ∀ (n : Nat) (R ws : List Str), (∀ r ∈ R, r ∈ C) → (∀ x ∈ ws, x ∈ needs ∨ ∃ m ∈ R, x ∈ ned ms m) → ∀ r ∈ closGo (srcS ms) (ned ms) defs n R ws, r ∈ C
  | 0, R, ws, h1, _ => h1
  | n + 1, R, [], h1, _ => h1
  | n + 1, R, x :: ws, h1, h2 => by
    unfold closGo
    have h2t : ∀ y ∈ ws, y ∈ needs ∨ ∃ m ∈ R, y ∈ ned ms m := fun y hy => h2 y (List.mem_cons_of_mem _ hy)
    split
    · exact clos_le F hc n R ws h1 h2t
    · rename_i m hm
      split
      · rename_i c
        have hmC : m ∈ C := hc m ((mem_step F).mpr ⟨x, hm, mem_needed.mpr ⟨(h2 x List.mem_cons_self).imp id (fun ⟨y, hy, hz⟩ => ⟨y, h1 y hy, hz⟩), c.2⟩⟩)
        refine clos_le F hc n _ _ (fun r hr => ?_) fun y hy => ?_
        · rcases List.mem_append.mp hr with e | e
          · exact h1 r e
          · rw [List.mem_singleton.mp e]
            exact hmC
        · rcases List.mem_append.mp hy with e | e
          · exact .inr ⟨m, List.mem_append_right _ (List.mem_singleton.mpr rfl), List.mem_reverse.mp e⟩
          · rcases h2t y e with z | ⟨k, hk, hz⟩
            · exact .inl z
            · exact .inr ⟨k, List.mem_append_left _ hk, hz⟩
      · exact clos_le F hc n R ws h1 h2t
theorem ned_few (F : LibF ms) {m : Str} (h : m ∈ ms.map nm0) : (ned ms m).length ≤ 8 := (ned_len (List.all_eq_true.mp F.mem _ (memF_mem h).1)).1
/-- the walk ends where nothing more is needed -/
theorem clos_closed (F : LibF ms) : ∀ (n : Nat) (R ws : List Str), R.Nodup → (∀ r ∈ R, r ∈ ms.map nm0) → 9 * (24 - R.length) + ws.length ≤ n → (∀ s m, s ∈ neededL ms defs needs R → (srcS ms).lookup s = some m → m ∈ R ∨ s ∈ ws) →
    ∀ m ∈ stepF ms defs needs (closGo (srcS ms) (ned ms) defs n R ws), m ∈ closGo (srcS ms) (ned ms) defs n R ws
  | 0, R, ws, h1, h2, h3, h4 => fun m hm => by
    obtain ⟨s, k1, k2⟩ := (mem_step F).mp hm
    rcases h4 s m k2 k1 with z | z
    · exact z
    · have e : ws = [] := List.eq_nil_of_length_eq_zero (by omega)
      rw [e] at z
      cases z
  | n + 1, R, [], h1, h2, h3, h4 => fun m hm => by
    obtain ⟨s, k1, k2⟩ := (mem_step F).mp hm
    rcases h4 s m k2 k1 with z | z
    · exact z
    · cases z
  | n + 1, R, x :: ws, h1, h2, h3, h4 => by
    rw [List.length_cons] at h3
    unfold closGo
    have skip : (∀ m, (srcS ms).lookup x = some m → x ∉ defs → m ∈ R) → ∀ s m, s ∈ neededL ms defs needs R → (srcS ms).lookup s = some m → m ∈ R ∨ s ∈ ws := fun hx s m k1 k2 => by
      rcases h4 s m k1 k2 with z | z
      · exact .inl z
      · rcases List.mem_cons.mp z with e | e
        · subst e
          exact .inl (hx m k2 (mem_needed.mp k1).2)
        · exact .inr e
    split
    · rename_i hx
      exact clos_closed F n R ws h1 h2 (by omega) (skip fun m h => by rw [hx] at h; cases h)
    · rename_i m0 hx
      split
      · rename_i c
        have hm0 : m0 ∈ ms.map nm0 := ((look_iff F).mp hx).1
        have n1 : (R ++ [m0]).Nodup := by
          have z1 := ins_nodup (k := m0) h1
          unfold ins at z1
          rw [if_neg c.1] at z1
          exact z1
        have n2 : ∀ r ∈ R ++ [m0], r ∈ ms.map nm0 := fun r hr => by
          rcases List.mem_append.mp hr with e | e
          · exact h2 r e
          · rw [List.mem_singleton.mp e]
            exact hm0
        have n3 := nodup_le n1 n2
        have n4 := ned_few F hm0
        have n5 := F.few
        rw [List.length_map, List.length_append, List.length_singleton] at n3
        refine clos_closed F n _ _ n1 n2 (by rw [List.length_append, List.length_append, List.length_reverse, List.length_singleton]; omega) fun s m k1 k2 => ?_
        obtain ⟨k3, k4⟩ := mem_needed.mp k1
        have old : s ∈ neededL ms defs needs R → m ∈ R ++ [m0] ∨ s ∈ (ned ms m0).reverse ++ ws := fun k5 => by
          rcases h4 s m k5 k2 with z | z
          · exact .inl (List.mem_append_left _ z)
          · rcases List.mem_cons.mp z with e | e
            · subst e
              rw [hx] at k2
              cases k2
              exact .inl (List.mem_append_right _ (List.mem_singleton.mpr rfl))
            · exact .inr (List.mem_append_right _ e)
        rcases k3 with k3 | ⟨y, hy, k5⟩
        · exact old (mem_needed.mpr ⟨.inl k3, k4⟩)
        · rcases List.mem_append.mp hy with e | e
          · exact old (mem_needed.mpr ⟨.inr ⟨y, e, k5⟩, k4⟩)
          · rw [List.mem_singleton.mp e] at k5
            exact .inr (List.mem_append_left _ (List.mem_reverse.mpr k5))
      · rename_i c
        refine clos_closed F n R ws h1 h2 (by omega) (skip fun m h hd => ?_)
        rw [hx] at h
        cases h
        exact Classical.byContradiction fun z => c ⟨z, hd⟩
theorem closS_closed (F : LibF ms) (hn : needs.length ≤ 200) : ∀ m ∈ stepF ms defs needs (closS ms defs needs), m ∈ closS ms defs needs :=
  clos_closed F 500 [] needs.reverse List.nodup_nil (fun r h => (nomatch h)) (by rw [List.length_reverse]; show 9 * 24 + _ ≤ 500; omega) fun s m k1 k2 => by
    rcases (mem_needed.mp k1).1 with z | ⟨y, hy, _⟩
    · exact .inr (List.mem_reverse.mpr z)
    · cases hy
theorem closS_le (F : LibF ms) {C : List Str} (hc : ∀ n ∈ stepF ms defs needs C, n ∈ C) : ∀ r ∈ closS ms defs needs, r ∈ C :=
  clos_le F hc 500 [] needs.reverse (fun r h => (nomatch h)) fun x hx => .inl (List.mem_reverse.mp hx)
/-- what stands in order among the names -/
def InOrd (ms : List PyData) (X : List Str) : Prop := X = (sortS (ms.map nm0)).filter fun n => decide (n ∈ X)
theorem step_ord (F : LibF ms) {X : List Str} : InOrd ms (stepF ms defs needs X) := by
  unfold InOrd
  conv => lhs; unfold stepF
  refine List.filter_congr fun n hn => ?_
  have h : n ∈ stepF ms defs needs X ↔ ((defsOf ms n).any fun s => decide (s ∈ neededL ms defs needs X)) = true := by
    unfold stepF
    rw [List.mem_filter]
    exact ⟨fun z => z.2, fun z => ⟨hn, z⟩⟩
  cases e : (defsOf ms n).any fun s => decide (s ∈ neededL ms defs needs X) with
  | true => exact (decide_eq_true (h.mpr e)).symm
  | false => exact (decide_eq_false fun z => by rw [h.mp z] at e; cases e).symm
theorem ord_eq {X Y : List Str} (hX : InOrd ms X) (hY : InOrd ms Y) (h : ∀ n, n ∈ X ↔ n ∈ Y) : X = Y := by
  rw [hX, hY]
  refine List.filter_congr fun n _ => ?_
  exact decide_eq_decide.mpr (h n)
theorem ord_lt {X Y : List Str} (hX : InOrd ms X) (hY : InOrd ms Y) (h : ∀ n ∈ X, n ∈ Y) (ne : Y ≠ X) : X.length < Y.length := by
  have h1 : ∃ n, n ∈ Y ∧ n ∉ X := Classical.byContradiction fun z => ne (ord_eq hY hX fun n => ⟨fun a => Classical.byContradiction fun b => z ⟨n, a, b⟩, h n⟩)
  obtain ⟨n, hn, hnx⟩ := h1
  have hs : X.Sublist Y := by
    rw [hX, hY]
    have e : (sortS (ms.map nm0)).filter (fun n => decide (n ∈ X)) = ((sortS (ms.map nm0)).filter (fun n => decide (n ∈ Y))).filter (fun n => decide (n ∈ X)) := by
      rw [List.filter_filter]
      refine List.filter_congr fun n _ => ?_
      by_cases z : n ∈ X
      · rw [decide_eq_true z, decide_eq_true (h n z)]
        rfl
      · rw [decide_eq_false z]
        rfl
    rw [e]
    exact List.filter_sublist
  rcases Nat.lt_or_ge X.length Y.length with z | z
  · exact z
  · have e := hs.eq_of_length_le z
    rw [e] at hnx
    exact absurd hn hnx
theorem ord_len (F : LibF ms) {X : List Str} (hX : InOrd ms X) : X.length ≤ 24 := by
  rw [hX]
  refine Nat.le_trans (List.length_filter_le _ _) ?_
  rw [(sortS_perm _).length_eq, List.length_map]
  exact F.few
theorem ord_sorted (F : LibF ms) {X : List Str} (hX : InOrd ms X) : sortS X = X := by
  have h1 : X.Pairwise fun x y => leS x y = true := by
    rw [hX]
    exact List.Pairwise.sublist List.filter_sublist (sortS_sorted _)
  exact (List.Perm.eq_of_pairwise (le := fun x y => leS x y = true) (fun _ _ _ _ h1 h2 => leS_anti h1 h2) h1 (sortS_sorted X) (sortS_perm X).symm).symm
/-- the last round's names are the closure -/
theorem reached_eq (F : LibF ms) (hn : needs.length ≤ 200) {X : List Str} (hX : InOrd ms X) (hc : ∀ n ∈ X, n ∈ closS ms defs needs) (he : stepF ms defs needs X = X) : X = sortS (closS ms defs needs) := by
  have h1 : ∀ n, n ∈ X ↔ n ∈ closS ms defs needs := fun n => ⟨hc n, closS_le F (fun k hk => by rw [he] at hk; exact hk) n⟩
  have h2 := closS_sub ms defs needs
  have h3 : X.Nodup := by
    rw [hX]
    exact List.Nodup.sublist List.filter_sublist ((sortS_perm _).nodup_iff.mpr F.nam)
  rw [← ord_sorted F hX]
  refine sortS_of_perm ?_
  exact (List.perm_ext_iff_of_nodup h3 h2.1).mpr h1
theorem step_in (F : LibF ms) (hn : needs.length ≤ 200) {X : List Str} (hc : ∀ n ∈ X, n ∈ closS ms defs needs) : ∀ n ∈ stepF ms defs needs X, n ∈ closS ms defs needs := fun n h => closS_closed F hn n (step_mono F hc n h)
end
end LK
namespace LK
open PySem PySem.Spec PyProof.Rows L2

theorem eqv_strs : ∀ (a b : List Str), PyData.eqvAll (a.map PyData.str) (b.map PyData.str) = decide (a = b)
  | [], [] => rfl
  | [], _ :: _ => rfl
  | _ :: _, [] => rfl
  | x :: a, y :: b => by
    show ((x == y) && PyData.eqvAll (a.map PyData.str) (b.map PyData.str)) = _
    rw [eqv_strs a b]
    by_cases h : x = y
    · subst h
      rw [beq_self_eq_true, Bool.true_and]
      exact decide_eq_decide.mpr (by simp)
    · rw [beq_eq_false_iff_ne.mpr h, Bool.false_and]
      exact (decide_eq_false fun z => h (List.cons.inj z).1).symm
/-- what the law keeps of the member called n -/
theorem row_at {H : Hp} {as : List PyData} {es : List (Str × V)} {n : Str} (hok : areArchivesL as = true) (e1 : es.map (·.1) = (as.flatMap it1).map nm0) (e2 : DrAll H (es.map (·.2)) (allD as)) (hn : n ∈ (as.flatMap it1).map nm0) :
    ∃ p za b c, es.lookup n = some (.ref p) ∧ H p = some (.tup [.str za, .ref b, .ref c]) ∧ H b = some (.tup ((defsOf (as.flatMap it1) n).map V.str)) ∧ H c = some (.tup ((ned (as.flatMap it1) n).map V.str)) := by
  have F := libF_of hok
  obtain ⟨g1, g2⟩ := memF_mem hn
  obtain ⟨i, hi⟩ := List.getElem?_of_mem g1
  have him : i < es.length := by
    have z := congrArg List.length e1
    rw [List.length_map, List.length_map] at z
    rw [z]
    exact (List.getElem?_eq_some_iff.mp hi).1
  have hes := List.getElem?_eq_getElem him
  have en : (es[i]).1 = n := by
    have z := congrArg (fun l => l[i]?) e1
    simp only [List.getElem?_map, hes, hi] at z
    rw [← g2]
    exact Option.some.inj z
  obtain ⟨ad, had⟩ := allD_get hi
  obtain ⟨rd, hrd, hdr⟩ := e2.get (i := i) (v := (es[i]).2) (by rw [List.getElem?_map, hes]; rfl)
  rw [had] at hrd
  cases hrd
  have hmok := List.all_eq_true.mp F.mem _ g1
  have hlk := lookup_at (by rw [e1]; exact F.nam) hes
  rw [en] at hlk
  obtain ⟨z0, ds, ns, em, _, h1, h2⟩ := isMember_sh hmok
  have s1 : it1 (memF (as.flatMap it1) (.str n)) = (defsOf (as.flatMap it1) n).map PyData.str := by
    unfold defsOf
    rw [em]
    exact (syms_facts h1).1
  have s2 : it2 (memF (as.flatMap it1) (.str n)) = (ned (as.flatMap it1) n).map PyData.str := by
    unfold ned
    rw [em]
    exact (syms_facts h2).1
  unfold rowD at hdr
  rw [s1, s2] at hdr
  generalize (es[i]).2 = vv at hdr hlk
  cases hdr with
  | tup hp hpl =>
    cases hpl with
    | cons c1 hpl =>
      cases hpl with
      | cons c2 hpl =>
        cases hpl with
        | cons c3 hpl =>
          cases hpl
          cases c1
          cases c2 with
          | tup hb hbl =>
            cases c3 with
            | tup hc hcl =>
              have y1 := hbl.strs
              have y2 := hcl.strs
              subst y1
              subst y2
              exact ⟨_, _, _, _, hlk, hp, hb, hc⟩
theorem prog_at {H : Hp} {v : V} {ds ns : List Str} (h : Dr H v (.tuple [strsD ds, strsD ns])) : ∃ a b c, v = .ref a ∧ H a = some (.tup [.ref b, .ref c]) ∧ H b = some (.tup (ds.map V.str)) ∧ H c = some (.tup (ns.map V.str)) := by
  cases h with
  | tup ha hal =>
    cases hal with
    | cons k1 hal =>
      cases hal with
      | cons k2 hal =>
        cases hal
        cases k1 with
        | tup hb hbl =>
          cases k2 with
          | tup hc hcl =>
            have y1 := hbl.strs
            have y2 := hcl.strs
            subst y1
            subst y2
            exact ⟨_, _, _, rfl, ha, hb, hc⟩
def spRch : Sp := fun vs H Q _ => ∃ (u v : V) (as : List PyData) (ds ns : List Str), vs = [u, v] ∧ Dr H u (.tuple as) ∧ areArchivesL as = true ∧ Dr H v (.tuple [strsD ds, strsD ns]) ∧ ds.length ≤ 200 ∧ ns.length ≤ 200 ∧
  ∀ (D : Addr) (H2 : Hp), Same H H2 → H D = none → H2 D = some (.lst ((sortS (closS (as.flatMap it1) ds ns)).map V.str)) → Q (.ref D) H2

end LK
namespace LK
open PySem PySem.Spec PyProof.Rows L2
/-! ### how long a text is that shows data -/
theorem repr_name {z : Str} (h : isNameS z = true) : (reprText z).length ≤ 82 := by
  have h1 := name_len h
  have h2 : PyData.layable0 (.str z) = true := by
    unfold PyData.layable0
    rw [Bool.and_eq_true, Bool.and_eq_true]
    refine ⟨⟨name_ok h, rfl⟩, decide_eq_true ?_⟩
    show z.cps.size ≤ 2 ^ 20
    have e : z.cps.size = z.length := rfl
    rw [e]
    exact Nat.le_trans h1 (by decide)
  have h3 := len_repr_of_layable h2
  omega
theorem join_le {b : Nat} : ∀ (ts : List Str), (∀ t ∈ ts, t.length ≤ b) → (Str.join ", " ts).length ≤ (b + 2) * ts.length
  | [], _ => Nat.zero_le _
  | [x], h => by
    have h1 := h x List.mem_cons_self
    show x.length ≤ (b + 2) * 1
    omega
  | x :: y :: r, h => by
    have h1 := h x List.mem_cons_self
    have h2 := join_le (y :: r) fun t ht => h t (List.mem_cons_of_mem _ ht)
    show (x ++ ", " ++ Str.join ", " (y :: r)).length ≤ _
    rw [app_len, app_len]
    have e2 : ((", " : String) : Str).length = 2 := rfl
    rw [e2, List.length_cons]
    rw [Nat.mul_add]
    omega
theorem tuple_le {b : Nat} {ts : List Str} (h : ∀ t ∈ ts, t.length ≤ b) : (tupleText ts).length ≤ (b + 2) * ts.length + 3 := by
  unfold tupleText
  have h1 := join_le ts h
  rw [app_len, app_len]
  have e1 : (("(" : String) : Str).length = 1 := rfl
  have e2 : ∀ c : Bool, (((if c = true then ",)" else ")" : String)) : Str).length ≤ 2 := by decide +kernel
  have e3 := e2 (ts.length == 1)
  rw [e1]
  omega
theorem shown_all : ∀ (ds : List PyData), PyData.shownAll ds = ds.map PyData.shown
  | [] => rfl
  | d :: ds => by
    show PyData.shown d :: PyData.shownAll ds = _
    rw [shown_all ds]
    rfl
theorem shown_strs {zs : List Str} (h : zs.all isNameS = true) (hl : zs.length ≤ 200) : (strsD zs).shown.length ≤ 20000 ∧ (strsD zs).showable = true ∧ (strsD zs).depth ≤ 1 ∧ (strsD zs).hasDict = false := by
  refine ⟨?_, ?_, ?_, ?_⟩
  · show (tupleText (PyData.shownAll (zs.map PyData.str))).length ≤ _
    rw [shown_all, List.map_map]
    have h1 := tuple_le (b := 82) (ts := zs.map (PyData.shown ∘ PyData.str)) fun t ht => by
      obtain ⟨z, hz, rfl⟩ := List.mem_map.mp ht
      exact repr_name (List.all_eq_true.mp h z hz)
    rw [List.length_map] at h1
    omega
  · show PyData.showableAll (zs.map PyData.str) = true
    clear h hl
    induction zs with
    | nil => rfl
    | cons z zs ih => exact ih
  · show PyData.depthAll (zs.map PyData.str) + 1 ≤ 1
    rw [depth_strs]
    decide
  · show PyData.hasDictAll (zs.map PyData.str) = false
    clear h hl
    induction zs with
    | nil => rfl
    | cons z zs ih => exact ih
section
variable {H : Hp} {v : V} {Q : VK}
theorem repr_strs {zs : List Str} (hv : Dr H v (strsD zs)) (h : zs.all isNameS = true) (hl : zs.length ≤ 200) (q : Q (.str (strsD zs).shown) H) : rRepr [v] H Q := by
  obtain ⟨h1, h2, h3, h4⟩ := shown_strs h hl
  have ks : 50000 ≤ sizeLine := by decide
  exact ⟨v, _, rfl, hv, h2, by omega, fun _ => by omega, (fun z => by rw [h4] at z; cases z), q⟩
theorem repr_prog {ds ns : List Str} (hv : Dr H v (.tuple [strsD ds, strsD ns])) (h : ds.all isNameS = true) (hl : ds.length ≤ 200) (h' : ns.all isNameS = true) (hl' : ns.length ≤ 200) (q : Q (.str (PyData.tuple [strsD ds, strsD ns]).shown) H) : rRepr [v] H Q := by
  obtain ⟨h1, h2, h3, h4⟩ := shown_strs h hl
  obtain ⟨k1, k2, k3, k4⟩ := shown_strs h' hl'
  have ks : 50000 ≤ sizeLine := by decide
  refine ⟨v, _, rfl, hv, ?_, ?_, fun _ => ?_, fun z => ?_, q⟩
  · show ((strsD ds).showable && ((strsD ns).showable && true)) = true
    rw [h2, k2]
    rfl
  · show max (strsD ds).depth (max (strsD ns).depth 0) + 1 ≤ 40
    omega
  · show (tupleText [(strsD ds).shown, (strsD ns).shown]).length ≤ _
    have z := tuple_le (b := 20000) (ts := [(strsD ds).shown, (strsD ns).shown]) fun t ht => by
      rcases List.mem_cons.mp ht with e | e
      · rw [e]; exact h1
      · rw [List.mem_singleton.mp e]; exact k1
    rw [List.length_cons, List.length_singleton] at z
    omega
  · have z2 : ((strsD ds).hasDict || ((strsD ns).hasDict || false)) = true := z
    rw [h4, k4] at z2
    cases z2
end
end LK
namespace LK
open PySem PySem.Spec PyProof.Rows L2
/-! ### rising rows, told by their members -/
theorem ltS_trans {a b c : Str} (h1 : ltS a b = true) (h2 : ltS b c = true) : ltS a c = true := decide_eq_true (List.lt_trans (of_decide_eq_true h1) (of_decide_eq_true h2))
theorem pw_asc : ∀ {zs : List Str}, ascS zs = true → zs.Pairwise (fun x y => ltS x y = true)
  | [], _ => .nil
  | [_], _ => List.pairwise_singleton _ _
  | a :: b :: zs, h => by
    have h0 : (ltS a b && (((b :: zs).zip zs).all fun p => ltS p.1 p.2)) = true := h
    rw [Bool.and_eq_true] at h0
    have h2 := pw_asc (zs := b :: zs) h0.2
    refine List.pairwise_cons.mpr ⟨fun z hz => ?_, h2⟩
    rcases List.mem_cons.mp hz with e | e
    · rw [e]
      exact h0.1
    · exact ltS_trans h0.1 ((List.pairwise_cons.mp h2).1 z e)
theorem ltS_le {a b : Str} (h : ltS a b = true) : leS a b = true := decide_eq_true (List.le_of_lt (of_decide_eq_true h))
theorem ltS_ne {a b : Str} (h : ltS a b = true) : a ≠ b := fun e => by
  subst e
  exact List.lt_irrefl _ (of_decide_eq_true h)
theorem asc_nodup {zs : List Str} (h : ascS zs = true) : zs.Nodup := (pw_asc h).imp ltS_ne
theorem asc_le {zs : List Str} (h : ascS zs = true) : zs.Pairwise fun x y => leS x y = true := (pw_asc h).imp ltS_le
theorem asc_eq {a b : List Str} (ha : ascS a = true) (hb : ascS b = true) (h : ∀ x, x ∈ a ↔ x ∈ b) : a = b :=
  List.Perm.eq_of_pairwise (le := fun x y => leS x y = true) (fun _ _ _ _ h1 h2 => leS_anti h1 h2) (asc_le ha) (asc_le hb) ((List.perm_ext_iff_of_nodup (asc_nodup ha) (asc_nodup hb)).mpr h)
theorem asc_filter {zs : List Str} {p : Str → Bool} (h : ascS zs = true) : ascS (zs.filter p) = true := ascS_pw ((pw_asc h).sublist List.filter_sublist)
theorem firsts_nodup (zs : List Str) : (firsts zs).Nodup := by
  unfold firsts
  have z : ∀ (zs L : List Str), L.Nodup → (zs.foldl ins L).Nodup := by
    intro zs
    induction zs with
    | nil => exact fun L h => h
    | cons a zs ih => exact fun L h => ih _ (ins_nodup h)
  exact z zs [] List.nodup_nil
theorem asc_set (zs : List Str) : ascS (sortS (firsts zs)) = true := asc_sort (firsts_nodup zs)
theorem mem_set {zs : List Str} {x : Str} : x ∈ sortS (firsts zs) ↔ x ∈ zs := by rw [(sortS_perm _).mem_iff, mem_firsts]
theorem asc_self {zs : List Str} (h : ascS zs = true) : sortS (firsts zs) = zs := asc_eq (asc_set zs) h fun x => mem_set
/-! ### obstacles -/
section
variable {ms mem : List PyData} {ds ns R : List Str} {s : Str}
theorem mem_sup : s ∈ supL mem ↔ ∃ m ∈ mem, s ∈ namesD (it1 m) := by
  unfold supL
  rw [mem_firsts, List.mem_flatten]
  constructor
  · rintro ⟨l, hl, hs⟩
    obtain ⟨m, hm, rfl⟩ := List.mem_map.mp hl
    exact ⟨m, hm, hs⟩
  · rintro ⟨m, hm, hs⟩
    exact ⟨_, List.mem_map.mpr ⟨m, hm, rfl⟩, hs⟩
theorem mem_ned : s ∈ nedL ns mem ↔ s ∈ ns ∨ ∃ m ∈ mem, s ∈ namesD (it2 m) := by
  unfold nedL
  rw [mem_firsts, List.flatten_cons, List.mem_append, List.mem_flatten]
  constructor
  · rintro (h | ⟨l, hl, hs⟩)
    · exact .inl h
    · obtain ⟨m, hm, rfl⟩ := List.mem_map.mp hl
      exact .inr ⟨m, hm, hs⟩
  · rintro (h | ⟨m, hm, hs⟩)
    · exact .inl h
    · exact .inr ⟨_, List.mem_map.mpr ⟨m, hm, rfl⟩, hs⟩
theorem mem_und : s ∈ undL ds ns mem ↔ s ∈ nedL ns mem ∧ s ∉ ds ∧ s ∉ supL mem := by
  unfold undL
  rw [List.mem_filter, (sortS_perm _).mem_iff, Bool.and_eq_true]
  simp
theorem mem_dup : s ∈ dupL ds mem ↔ s ∈ ds ∧ s ∈ supL mem := by
  unfold dupL
  rw [List.mem_filter]
  simp
theorem asc_und : ascS (undL ds ns mem) = true := asc_filter (asc_sort (firsts_nodup _))
theorem asc_dup (h : ascS ds = true) : ascS (dupL ds mem) = true := asc_filter h
theorem sup_of : s ∈ supL (memsOf ms R) ↔ ∃ r ∈ R, s ∈ defsOf ms r := by
  rw [mem_sup]
  unfold memsOf defsOf
  constructor
  · rintro ⟨m, hm, hs⟩
    obtain ⟨r, hr, rfl⟩ := List.mem_map.mp hm
    exact ⟨r, hr, hs⟩
  · rintro ⟨r, hr, hs⟩
    exact ⟨_, List.mem_map.mpr ⟨r, hr, rfl⟩, hs⟩
theorem ned_of : s ∈ nedL ns (memsOf ms R) ↔ s ∈ ns ∨ ∃ r ∈ R, s ∈ ned ms r := by
  rw [mem_ned]
  unfold memsOf ned
  constructor
  · rintro (h | ⟨m, hm, hs⟩)
    · exact .inl h
    · obtain ⟨r, hr, rfl⟩ := List.mem_map.mp hm
      exact .inr ⟨r, hr, hs⟩
  · rintro (h | ⟨r, hr, hs⟩)
    · exact .inl h
    · exact .inr ⟨_, List.mem_map.mpr ⟨r, hr, rfl⟩, hs⟩
/-- what the law finds to be lacking, doubled -/
theorem lack_eq : sortS (firsts ((ns ++ R.flatMap (ned ms)).filter fun z => !decide (z ∈ R.flatMap (defsOf ms) ++ ds))) = undL ds ns (memsOf ms R) := by
  refine asc_eq (asc_set _) asc_und fun x => ?_
  rw [mem_set, List.mem_filter, mem_und, sup_of, ned_of, List.mem_append, List.mem_flatMap]
  simp only [Bool.not_eq_true', decide_eq_false_iff_not, List.mem_append, List.mem_flatMap, not_or]
  exact ⟨fun h => ⟨h.1, h.2.2, h.2.1⟩, fun h => ⟨h.1, h.2.2, h.2.1⟩⟩
theorem doub_eq (hd : ascS ds = true) : sortS (firsts ((R.flatMap (defsOf ms)).filter fun z => decide (z ∈ ds))) = dupL ds (memsOf ms R) := by
  refine asc_eq (asc_set _) (asc_dup hd) fun x => ?_
  rw [mem_set, List.mem_filter, mem_dup, sup_of, List.mem_flatMap]
  simp only [decide_eq_true_eq]
  exact ⟨fun h => ⟨h.2, h.1⟩, fun h => ⟨h.2, h.1⟩⟩
/-- a program that defines more needs no further member -/
theorem clos_anti (F : LibF ms) (hn : ns.length ≤ 200) {ds2 : List Str} (h : ∀ s ∈ ds, s ∈ ds2) : ∀ r ∈ closS ms ds2 ns, r ∈ closS ms ds ns :=
  closS_le F fun n hn2 => closS_closed F hn n (by
    obtain ⟨s, h1, h2⟩ := (mem_step F).mp hn2
    obtain ⟨h3, h4⟩ := mem_needed.mp h2
    exact (mem_step F).mpr ⟨s, h1, mem_needed.mpr ⟨h3, fun z => h4 (h s z)⟩⟩)
theorem fill_none (F : LibF ms) (hn : ns.length ≤ 200) {ds2 : List Str} (h : ∀ s ∈ ds, s ∈ ds2) (hU : ∀ s ∈ undL ds ns (memsOf ms (sortS (closS ms ds ns))), s ∈ ds2) : undL ds2 ns (memsOf ms (sortS (closS ms ds2 ns))) = [] := by
  refine List.eq_nil_iff_forall_not_mem.mpr fun s hs => ?_
  obtain ⟨h1, h2, h3⟩ := mem_und.mp hs
  have k1 : s ∈ nedL ns (memsOf ms (sortS (closS ms ds ns))) := by
    rcases ned_of.mp h1 with z | ⟨r, hr, z⟩
    · exact ned_of.mpr (.inl z)
    · exact ned_of.mpr (.inr ⟨r, (sortS_perm _).mem_iff.mpr (clos_anti F hn h r ((sortS_perm _).mem_iff.mp hr)), z⟩)
  by_cases k2 : s ∈ supL (memsOf ms (sortS (closS ms ds ns)))
  · obtain ⟨r, hr, hd⟩ := sup_of.mp k2
    have hr1 := (closS_sub ms ds ns).2 r ((sortS_perm _).mem_iff.mp hr)
    have hl := (look_iff F).mpr ⟨hr1, hd⟩
    have hr2 : r ∈ closS ms ds2 ns := closS_closed F hn r ((mem_step F).mpr ⟨s, hl, mem_needed.mpr ⟨(ned_of.mp h1).imp id fun ⟨y, hy, z⟩ => ⟨y, (sortS_perm _).mem_iff.mp hy, z⟩, h2⟩⟩)
    exact h3 (sup_of.mpr ⟨r, (sortS_perm _).mem_iff.mpr hr2, hd⟩)
  · exact h2 (hU s (mem_und.mpr ⟨k1, fun z => h2 (h s z), k2⟩))
end
end LK
namespace LK
open PySem PySem.Spec PyProof.Rows L2
/-! ### closures of several needs -/
section
variable {ms : List PyData} {ds n1 n2 n3 : List Str}
theorem clos_more (F : LibF ms) (h2 : n2.length ≤ 200) (hm : ∀ s ∈ n1, s ∈ n2) : ∀ r ∈ closS ms ds n1, r ∈ closS ms ds n2 :=
  closS_le F fun n hn => closS_closed F h2 n (by
    obtain ⟨s, k1, k2⟩ := (mem_step F).mp hn
    obtain ⟨k3, k4⟩ := mem_needed.mp k2
    exact (mem_step F).mpr ⟨s, k1, mem_needed.mpr ⟨k3.imp (hm s) id, k4⟩⟩)
theorem clos_union (F : LibF ms) (h1 : n1.length ≤ 200) (h2 : n2.length ≤ 200) (h3 : n3.length ≤ 200) (hm : ∀ s, s ∈ n3 ↔ s ∈ n1 ∨ s ∈ n2) (r : Str) : r ∈ closS ms ds n3 ↔ r ∈ closS ms ds n1 ∨ r ∈ closS ms ds n2 := by
  constructor
  · intro h
    have k : r ∈ closS ms ds n1 ++ closS ms ds n2 := closS_le F (fun n hn => by
      obtain ⟨s, k1, k2⟩ := (mem_step F).mp hn
      obtain ⟨k3, k4⟩ := mem_needed.mp k2
      have side : ∀ {m : List Str}, m.length ≤ 200 → (s ∈ m ∨ ∃ y ∈ closS ms ds m, s ∈ ned ms y) → n ∈ closS ms ds m := fun hl z => closS_closed F hl n ((mem_step F).mpr ⟨s, k1, mem_needed.mpr ⟨z, k4⟩⟩)
      rcases k3 with z | ⟨y, hy, z⟩
      · rcases (hm s).mp z with e | e
        · exact List.mem_append_left _ (side h1 (.inl e))
        · exact List.mem_append_right _ (side h2 (.inl e))
      · rcases List.mem_append.mp hy with e | e
        · exact List.mem_append_left _ (side h1 (.inr ⟨y, e, z⟩))
        · exact List.mem_append_right _ (side h2 (.inr ⟨y, e, z⟩))) r h
    exact List.mem_append.mp k
  · rintro (h | h)
    · exact clos_more F h3 (fun s hs => (hm s).mpr (.inl hs)) r h
    · exact clos_more F h3 (fun s hs => (hm s).mpr (.inr hs)) r h
theorem clos_absorb (F : LibF ms) (h1 : n1.length ≤ 200) (h2 : n2.length ≤ 200) (hm : ∀ s, s ∈ n2 ↔ s ∈ n1 ∨ ∃ r ∈ closS ms ds n1, s ∈ defsOf ms r) (r : Str) : r ∈ closS ms ds n2 ↔ r ∈ closS ms ds n1 := by
  constructor
  · refine closS_le F (fun n hn => ?_) r
    obtain ⟨s, k1, k2⟩ := (mem_step F).mp hn
    obtain ⟨k3, k4⟩ := mem_needed.mp k2
    have side : (s ∈ n1 ∨ ∃ y ∈ closS ms ds n1, s ∈ ned ms y) → n ∈ closS ms ds n1 := fun z => closS_closed F h1 n ((mem_step F).mpr ⟨s, k1, mem_needed.mpr ⟨z, k4⟩⟩)
    rcases k3 with z | z
    · rcases (hm s).mp z with e | ⟨y, hy, e⟩
      · exact side (.inl e)
      · have hl := (look_iff F).mpr ⟨(closS_sub ms ds n1).2 y hy, e⟩
        rw [k1] at hl
        cases hl
        exact hy
    · exact side (.inr z)
  · exact clos_more F h2 (fun s hs => (hm s).mpr (.inl hs)) r
theorem asc_clos : ascS (sortS (closS ms ds n1)) = true := asc_sort (closS_sub ms ds n1).1
theorem mem_sclos {r : Str} : r ∈ sortS (closS ms ds n1) ↔ r ∈ closS ms ds n1 := (sortS_perm _).mem_iff
theorem sclos_union (F : LibF ms) (h1 : n1.length ≤ 200) (h2 : n2.length ≤ 200) (h3 : n3.length ≤ 200) (hm : ∀ s, s ∈ n3 ↔ s ∈ n1 ∨ s ∈ n2) : sortS (closS ms ds n3) = sortS (firsts (sortS (closS ms ds n1) ++ sortS (closS ms ds n2))) :=
  asc_eq asc_clos (asc_set _) fun x => by rw [mem_set, List.mem_append, mem_sclos, mem_sclos, mem_sclos, clos_union F h1 h2 h3 hm x]
theorem sclos_absorb (F : LibF ms) (h1 : n1.length ≤ 200) (h2 : n2.length ≤ 200) (hm : ∀ s, s ∈ n2 ↔ s ∈ n1 ∨ ∃ r ∈ closS ms ds n1, s ∈ defsOf ms r) : sortS (closS ms ds n2) = sortS (closS ms ds n1) :=
  asc_eq asc_clos asc_clos fun x => by rw [mem_sclos, mem_sclos, clos_absorb F h1 h2 hm x]
theorem sclos_nil : sortS (closS ms ds []) = [] := by
  have e : closS ms ds [] = [] := rfl
  rw [e]
  exact List.eq_nil_of_length_eq_zero (by rw [(sortS_perm _).length_eq]; rfl)
theorem clos_all (F : LibF ms) : (sortS (closS ms ds n1)).all isNameS = true ∧ (sortS (closS ms ds n1)).length ≤ ms.length := by
  obtain ⟨c1, c2⟩ := closS_sub ms ds n1
  refine ⟨?_, ?_⟩
  · rw [List.all_eq_true]
    intro n hn
    obtain ⟨m, hm, rfl⟩ := List.mem_map.mp (c2 n ((sortS_perm _).mem_iff.mp hn))
    obtain ⟨z, x, y, rfl, h1, _⟩ := isMember_sh (List.all_eq_true.mp F.mem m hm)
    exact h1
  · rw [(sortS_perm _).length_eq]
    have z := nodup_le c1 c2
    rw [List.length_map] at z
    exact z
end
/-! ### tools of the laws -/
theorem ifn {b : Bool} {p q : Prop} (h : b = false) (k : q) : if b = true then p else q := by
  rw [h]
  exact k
theorem nd_self {α : Type} {x : α} {h : Decidable (x = x)} : (!@decide (x = x) h) = false := by
  rw [decide_eq_true rfl]
  rfl
theorem catA_use {K : PySem.W.Frag} {H : Hp} {Q : VK} {p q : Addr} {xs zs : List V} (h1 : H p = some (.tup xs)) (h2 : H q = some (.tup zs)) (hz : xs.length + zs.length ≤ sizeLine) (k : ∀ r H2, Same H H2 → H2 r = some (.tup (xs ++ zs)) → Q (.ref r) H2) : rCatA K (.ref p) (.ref q) H Q := by
  refine ⟨p, q, xs, zs, rfl, rfl, SqT.of h1, SqT.of h2, hz, fun e => ?_, fun _ e => ?_, fun _ _ r nr => k r _ (same_upd nr) upd_same⟩
  · subst e
    exact k q H (Same.refl _) h2
  · subst e
    rw [List.append_nil] at k
    exact k p H (Same.refl _) h1
theorem repr_bl {H : Hp} {Q : VK} {b : Bool} (q : Q (.str (PyData.bool b).shown) H) : rRepr [.bl b] H Q := ⟨.bl b, .bool b, rfl, .bl b, rfl, by cases b <;> decide, fun _ => by cases b <;> decide, fun z => (by cases z), q⟩
theorem prog_mk {ds ns : List Str} (d1 : ds.all isNameS = true) (d2 : ascS ds = true) (d3 : ds.length ≤ 200) (n1 : ns.all isNameS = true) (n2 : ascS ns = true) (n3 : ns.length ≤ 200) : isProgramD (.tuple [strsD ds, strsD ns]) = true ∧ Fit (.tuple [strsD ds, strsD ns]) := by
  refine ⟨?_, ?_⟩
  · show (areSymsL (ds.map PyData.str) 0 200 && areSymsL (ns.map PyData.str) 0 200) = true
    rw [syms_mk (by omega) (by omega) d1 d2, syms_mk (by omega) (by omega) n1 n2]
    rfl
  · have z1 := sz_names d1
    have z2 := sz_names n1
    show ((szL (ds.map PyData.str) + 1) + ((szL (ns.map PyData.str) + 1) + 0)) + 1 ≤ 1000000
    omega
theorem obs_strs (as : List PyData) (ds ns : List Str) : obsD as (.tuple [strsD ds, strsD ns]) = .tuple [strsD (undL ds ns (memsOf (as.flatMap it1) (sortS (closS (as.flatMap it1) ds ns)))), strsD (dupL ds (memsOf (as.flatMap it1) (sortS (closS (as.flatMap it1) ds ns))))] := by
  show PyData.tuple [strsD (undL (namesD (ds.map PyData.str)) (namesD (ns.map PyData.str)) (memsOf (as.flatMap it1) (sortS (closS (as.flatMap it1) (namesD (ds.map PyData.str)) (namesD (ns.map PyData.str)))))), strsD (dupL (namesD (ds.map PyData.str)) (memsOf (as.flatMap it1) (sortS (closS (as.flatMap it1) (namesD (ds.map PyData.str)) (namesD (ns.map PyData.str))))))] = _
  rw [namesD_strs, namesD_strs]
theorem clo_strs (as : List PyData) (ds ns : List Str) : closD as (.tuple [strsD ds, strsD ns]) = strsD (sortS (closS (as.flatMap it1) ds ns)) := by
  show strsD (sortS (closS (as.flatMap it1) (namesD (ds.map PyData.str)) (namesD (ns.map PyData.str)))) = _
  rw [namesD_strs, namesD_strs]
theorem eqv_tup (a b : List Str) : PyData.eqv (strsD a) (strsD b) = decide (a = b) := eqv_strs a b
theorem dr_strsD {H : Hp} {v : V} {zs : List Str} (h : Dr H v (strsD zs)) : ∃ p, v = .ref p ∧ H p = some (.tup (zs.map V.str)) := by
  cases h with
  | tup h1 h2 =>
    have e := h2.strs
    subst e
    exact ⟨_, rfl, h1⟩
theorem flat_strsD {zs : List Str} : flatD (strsD zs) = true := flat_strsA (by rw [namesD_strs])
theorem WellAt.ne {G : Hp} {n : Nat} {a b : Addr} (h1 : WellAt G a n) (h2 : G b = none) : b ≠ a := fun z => by
  obtain ⟨_, h3⟩ := h1.some
  rw [z, h3] at h2
  cases h2
theorem WellAt.neT {G : Hp} {n : Nat} {a b : Addr} {xs : List V} (h1 : WellAt G a n) (h2 : G b = Option.some (.tup xs)) : b ≠ a := fun z => by
  obtain ⟨_, h3⟩ := h1.some
  rw [z, h3] at h2
  cases h2
theorem dr_pair {H : Hp} {t : Addr} {u v : V} {d e : PyData} (nt : H t = none) (hu : Dr H u d) (hv : Dr H v e) : Dr (upd H t (.tup [u, v])) (.ref t) (.tuple [d, e]) := .tup upd_same (.cons (hu.mono (same_upd nt)) (.cons (hv.mono (same_upd nt)) .nil))
theorem WellAt.keep {G G2 : Hp} {n : Nat} {a : Addr} {v : V} {d : PyData} (w : WellAt G a n) (s : Sab a G G2) (f : flatD d = true) (h : Dr G v d) : Dr G2 v d := by
  obtain ⟨_, h3⟩ := w.some
  exact h.tups (sab_tups h3 s) f
structure NamesOk (zs : List Str) (n : Nat) : Prop where
  nm : zs.all isNameS = true
  asc : ascS zs = true
  len : zs.length ≤ n
theorem clo_call {C x : Addr} {H : Hp} {v : V} {as : List PyData} {ds ns : List Str} {Q : VK} (hL : LibR C H x as) (hok : areArchivesL as = true) (hv : Dr H v (.tuple [strsD ds, strsD ns])) (hd : NamesOk ds 200) (hn : NamesOk ns 200)
    (k : ∀ u H2, Same H H2 → Dr H2 u (strsD (sortS (closS (as.flatMap it1) ds ns))) → Q u H2) : spCl C [.ref x, v] H Q (fun _ _ _ => False) := by
  obtain ⟨isP, fitP⟩ := prog_mk hd.nm hd.asc hd.len hn.nm hn.asc hn.len
  exact ⟨x, v, _, as, rfl, hL, hok, hv, isP, fitP, fun u H2 s h => k u H2 s (by rw [clo_strs] at h; exact h)⟩
theorem NamesOk.le {zs : List Str} {n m : Nat} (h : NamesOk zs n) (l : n ≤ m) : NamesOk zs m := ⟨h.nm, h.asc, Nat.le_trans h.len l⟩
theorem both_ok {xs ys : List Str} {n m : Nat} (hx : xs.all isNameS = true) (hy : ys.all isNameS = true) (lx : xs.length ≤ n) (ly : ys.length ≤ m) : NamesOk (sortS (firsts (xs ++ ys))) (n + m) := by
  refine ⟨?_, asc_set _, ?_⟩
  · rw [List.all_eq_true]
    intro z hz
    rcases List.mem_append.mp (mem_set.mp hz) with e | e
    · exact List.all_eq_true.mp hx z e
    · exact List.all_eq_true.mp hy z e
  · rw [(sortS_perm _).length_eq]
    have z := firsts_len (xs ++ ys)
    rw [List.length_append] at z
    omega
theorem clo_ok {ms : List PyData} {ds ns : List Str} (F : LibF ms) : NamesOk (sortS (closS ms ds ns)) 24 := ⟨(clos_all F).1, asc_clos, Nat.le_trans (clos_all F).2 F.few⟩
end LK
namespace LK
open PySem PySem.Spec PyProof.Rows L2
/-- [pick(well, some) for turn in range(n)], n at least lo -/
theorem comp_pickG {σ : L2.St} {H : Hp} {a p : Addr} {N j1 j2 i lo b : Nat} {ss : List Str} {te : TE} {E : XK} {R : VK} (ht : ∀ Q : VK, (∀ (n : Nat) (H1 : Hp), lo ≤ n → n ≤ b → Sab a H H1 → WellAt H1 a (N + 1) → Q (.int (n : Nat)) H1) → te σ H Q)
    (hp : H p = some (.lst (ss.map V.str))) (hpa : p ≠ a) (hne : ss ≠ []) (hsl : ss.length < 1000) (hN : N ≤ 2 ^ 39) (hb : b ≤ 1000)
    (hw : ∀ x, wipe ((wipe σ [i]).set i (some x)) [i] = wipe σ [i]) (h1 : ∀ x : V, ((wipe σ [i]).set i (some x))[j1]? = some (some (.ref a))) (h2 : ∀ x : V, ((wipe σ [i]).set i (some x))[j2]? = some (some (.ref p)))
    (k : ∀ (D : Addr) (H2 : Hp) (zs : List Str), (∀ z ∈ zs, z ∈ ss) → lo ≤ zs.length → zs.length ≤ b → Sab a H H2 → WellAt H2 a (N + 1 + b) → H D = none → H2 D = some (.lst (zs.map V.str)) → R (.ref D) H2) :
    tLc (iRng1 (tCons te tNil)) (gName i) tYes (tCall spPick [] E (tCons (tVar j1) (tCons (tVar j2) tNil))) [i] σ H R := by
  have ksz : 5000 ≤ sizeLine := by decide
  refine ht _ fun n H1 hlo hn s1 w1 => ⟨(n : Nat), rfl, by omega, by omega, fun D nD => ?_⟩
  have nDa : D ≠ a := fun z => by
    obtain ⟨_, h3⟩ := w1.some
    rw [z, h3] at nD
    cases nD
  have nD0 : H D = none := none_of_sab s1 nD nDa
  refine lc_range (lo := (0 : Int)) (n := n) (fun t H2 => ∃ zs : List Str, zs.length = t ∧ (∀ z ∈ zs, z ∈ ss) ∧ Sab a H H2 ∧ WellAt H2 a (N + 1 + t) ∧ H2 D = some (.lst (zs.map V.str))) ⟨[], rfl, fun z hz => (nomatch hz), sab_updN s1 nD0, ?_, upd_same⟩ (fun t H2 lt hP => ?_) (fun H2 hP => ?_)
  · obtain ⟨o, c, m, g1, g2⟩ := w1
    exact ⟨o, c, m, by rw [upd_ne nDa.symm]; exact g1, g2⟩
  · obtain ⟨zs, rfl, g1, g2, g3, g4⟩ := hP
    refine ⟨hw _, _, h1 _, _, h2 _, a, p, N + 1 + zs.length, _, rfl, g3, by omega, hpa, g2 _ _ hpa hp, by rw [Ne, List.map_eq_nil_iff]; exact hne, by rw [List.length_map]; omega, fun j v H3 hv s3 w3 => ?_⟩
    rw [List.getElem?_map] at hv
    cases hz : ss[j]? with
    | none =>
      rw [hz] at hv
      cases hv
    | some z =>
      rw [hz] at hv
      cases hv
      refine ⟨_, s3 _ _ nDa g4, by rw [List.length_map]; omega, zs ++ [z], by rw [List.length_append]; rfl, fun y hy => ?_, sab_updN (g2.trans s3) nD0, ?_, ?_⟩
      · rcases List.mem_append.mp hy with e | e
        · exact g1 y e
        · rw [List.mem_singleton.mp e]
          exact List.mem_of_getElem? hz
      · obtain ⟨o, c, m, g1, g2⟩ := w3
        exact ⟨o, c, m, by rw [upd_ne nDa.symm]; exact g1, g2⟩
      · rw [upd_same, List.map_append]
        rfl
  · obtain ⟨zs, rfl, g1, g2, g3, g4⟩ := hP
    exact k D H2 zs g1 hlo hn g2 (g3.le (by omega)) nD0 g4
/-- pick(well, [n, ..]) of small numbers -/
theorem pick_small {G : Hp} {a L : Addr} {Nn lo b : Nat} {xs : List Nat} (hw0 : WellAt G a Nn) (hN0 : Nn ≤ 2 ^ 39) (nL : G L = none) (hne : xs ≠ []) (hl : xs.length < 100) (h4 : ∀ x ∈ xs, lo ≤ x ∧ x ≤ b) {Q : VK} (hQ : ∀ (n : Nat) (H1 : Hp), lo ≤ n → n ≤ b → Sab a G H1 → WellAt H1 a (Nn + 1) → Q (.int (n : Nat)) H1) :
    spPick [.ref a, .ref L] (upd G L (.lst (xs.map fun x : Nat => V.int (x : Nat)))) Q (fun _ _ _ => False) := by
  have jL := same_upd (o := .lst (xs.map fun x : Nat => V.int (x : Nat))) nL
  refine ⟨a, L, Nn, _, rfl, hw0.mono jL, by omega, hw0.ne nL, upd_same, by rw [Ne, List.map_eq_nil_iff]; exact hne, by rw [List.length_map]; omega, fun i v H4 hv s4 w4 => ?_⟩
  rw [List.getElem?_map] at hv
  cases hxi : xs[i]? with
  | none =>
    rw [hxi] at hv
    cases hv
  | some m =>
    rw [hxi] at hv
    cases hv
    obtain ⟨k1, k2⟩ := h4 m (List.mem_of_getElem? hxi)
    exact hQ m H4 k1 k2 ((sab_of jL).trans s4) w4
end LK
namespace LK
open PySem PySem.Spec PyProof.Rows L2
section
variable {X : Cx}
/-- {e for x in xs if ..}, e a text -/
def tst1 (w : World) (wi : TI) (g : TG) (tt : TT) (te : TE) (vs : List Nat) : TE := fun σ H Q => wi σ H fun J H1 => ∀ D, H1 D = none → ∃ W : Nat → Nat → Hp → Prop, (∃ m, W 0 m (upd H1 D (SetT w D []))) ∧ ∀ i m H, W i m H →
  (J.stop i H ∧ Q (.ref D) H) ∨ (J.go i H ∧ ∃ Nx : Hp → Prop, (∀ H2, Nx H2 → ∃ k, k < m ∧ W (i + 1) k H2) ∧ ∀ x H2, J.yld i H x H2 → g x (wipe σ vs) H2 fun σ2 H3 => wipe σ2 vs = wipe σ vs ∧ tt σ2 H3 fun b H4 =>
    if b = true then te σ2 H4 fun y H5 => ∃ (k : Str) (L : List Str), y = .str k ∧ H5 D = some (SetT w D L) ∧ L.length + 1 < scanBound ∧ Nx (upd H5 D (SetT w D (ins L k))) else Nx H4)
theorem core_s1 {pins : List (Addr × Obj)} {s : Shared} {σ : L2.St} {H : Hp} {Q : VK} {el tg iter : Expr} {ifs : List Expr} {scope : Scope} {own : List (Str × Nat)} {pos pos2 : Pos} {wi : TI} {g : TG} {tt : TT} {te : TE} {use : Option (Value → Sem Unit)} {Qf : Value → Shared → Prop}
    (hc : X.calm = true) (hN : X.N.Nodup) (I : Inv X pins σ H s) (hi : PI X tg iter wi) (ok : BlkOk X.N X.env.scope scope own)
    (hg : ∀ (s : Shared) (H : Hp) (C : Addr) (cl : List (Str × Addr)) (fp : List Addr), PG (X.blk s H scope (compEnvC scope cl C X.env) fp) tg g)
    (ht : ∀ (s : Shared) (H : Hp) (C : Addr) (cl : List (Str × Addr)) (fp : List Addr), PTs (X.blk s H scope (compEnvC scope cl C X.env) fp) ifs tt)
    (he : ∀ (s : Shared) (H : Hp) (C : Addr) (cl : List (Str × Addr)) (fp : List Addr), PE (X.blk s H scope (compEnvC scope cl C X.env) fp) el te) (hs : ∀ x, foldedSetIterable iter X.env x = pure x)
    (h : tst1 X.w wi g tt te (own.map (·.2)) σ H Q)
    (back : ∀ D C s2 m H2, Inv X pins σ H2 s2 → Q (.ref D) H2 → s2.heap.Ns C m → FpOk X pins H2 C → compPost (model X.prog X.w) X.A X.xe use Qf (.ref D) C (.ok .next) s2) :
    wpAny (model X.prog X.w) X.A (comprehension (.SetComp el [⟨tg, iter, ifs, 0⟩] scope pos) scope X.env pos2 (newSet (.type "set")) false (eval iter X.env) use) Qf X.xe s := by
  have clo : ∀ y ∈ scope.names, y.2 = .free → ∃ c, X.env.cells.lookup y.1 = some c := fun y hy e => by
    rcases ok.free y hy e with z | z
    · exact I.ok.has _ (Or.inl z)
    · exact I.ok.has _ (Or.inr z)
  refine wpAny_comprehension_free (use := use) rfl hs (closure_ok clo) ok.kind (fun y hy e => by rw [ok.uniq y hy, e]) (thn (hi.run pins s σ H _ I h) fun xv s1 hx => thn hx fun itv s2 h2 => ?_)
  obtain ⟨it, fp, tn, J, H2, e, I2, T, st2, f2, q⟩ := h2
  subst e
  refine PpSet.newSet_ok (newEnv_comp ?_)
  generalize hD : s2.heap.objs.size = D
  have nD : H2 D = none := I2.hok.fresh (Nat.le_of_eq hD)
  obtain ⟨W, ⟨m0, w0⟩, turn⟩ := q D nD
  generalize hs3 : ({ s2 with heap := s2.heap.push (newO X.w) } : Shared) = s3
  have I3 : Inv X pins σ (upd H2 D (SetT X.w D [])) s3 := by
    rw [← hs3]
    refine I2.laid (t' := s2.toks) (fun b u z => Heap.get?_push_of_some _ z) (Nat.le_of_eq hD) ?_
    rw [← hD]
    exact setT_ok (setRT_fresh X.w)
  have h3 : s3.heap = s2.heap.push (newO X.w) := by rw [← hs3]
  have lt2 : ∀ b ∈ fp, b < s2.heap.objs.size := fun b hb => by
    obtain ⟨u, z, _⟩ := T.obj _ _ st2 b hb
    exact Heap.lt_size z
  have f3 : ∀ b ∈ fp, FpOk X pins (upd H2 D (SetT X.w D [])) b ∧ b < s3.heap.objs.size := fun b hb => by
    have l := lt2 b hb
    have nbD : b ≠ D := by
      rw [← hD]
      exact Nat.ne_of_lt l
    refine ⟨⟨?_, (f2 b hb).2⟩, ?_⟩
    · rw [upd_ne nbD]
      exact (f2 b hb).1
    · rw [h3, Heap.size_push]
      exact Nat.lt_succ_of_lt l
  have st3 : tn 0 s3.heap := T.keep _ _ _ st2 fun b _ u z => by
    rw [h3]
    exact Heap.get?_push_of_some _ z
  have I4 := block_start I3 ok hN f3
  generalize hcl : cellsFrom (s3.heap.objs.size + 1) scope.names (cloFrom X.env.cells scope.names []) = cc at I4
  have pg := hg s3 (upd H2 D (SetT X.w D [])) s3.heap.objs.size cc fp
  have pt := ht s3 (upd H2 D (SetT X.w D [])) s3.heap.objs.size cc fp
  have pe := he s3 (upd H2 D (SetT X.w D [])) s3.heap.objs.size cc fp
  show codeAny _ _ (.compStart (.SetComp el [⟨tg, iter, ifs, 0⟩] scope pos) 0 (.ref it) (.ref D) (compEnvC scope cc s3.heap.objs.size X.env)) (compPost (model X.prog X.w) X.A X.xe use Qf (.ref D) s3.heap.objs.size)
    { s3 with heap := pushCells (s3.heap.push { cls := .type "dict", data := .dict #[] }) scope.names }
  have nfp : ∀ b ∈ fp, (upd H2 D (SetT X.w D [])) b = none := fun b hb => (f3 b hb).1.1
  generalize hce : compEnvC scope cc s3.heap.objs.size X.env = ce at I4 pg pt pe ⊢
  have cL : ce.locals = s3.heap.objs.size := by
    subst hce
    rfl
  generalize hH3 : upd H2 D (SetT X.w D []) = H3 at I3 I4 pg pt pe w0 nfp f3
  generalize hs4 : ({ s3 with heap := pushCells (s3.heap.push { cls := .type "dict", data := .dict #[] }) scope.names } : Shared) = s4 at I4 ⊢
  have st4 : tn 0 s4.heap := T.keep _ _ _ st3 fun b _ u z => by
    rw [← hs4]
    exact pushCells_keeps _ _ _ _ (Heap.get?_push_of_some _ z)
  have free : ∀ {σ5 : L2.St} {H5 : Hp} {s5 : Shared}, Inv (X.blk s3 H3 scope ce fp) [] σ5 H5 s5 → (∀ b ∈ fp, H5 b = none) → ∀ b ∈ fp, FpOk (X.blk s3 H3 scope ce fp) [] H5 b := fun {σ5 H5 s5} I5 hn b hb =>
    ⟨hn b hb, (I5.ok.exf b hb).1, I5.ok.exfs b hb, Or.inl hb, fun x c z => (I5.ok.exf b hb).2 x c z, fun p hp => absurd (show p ∈ ([] : List (Addr × Obj)) ++ [] from hp) (by simp)⟩
  have loop : codeAny (model X.prog X.w) X.A (.compLoop (.SetComp el [⟨tg, iter, ifs, 0⟩] scope pos) 0 (.ref it) (.ref D) ce) (compPost (model X.prog X.w) X.A X.xe use Qf (.ref D) s3.heap.objs.size) s4 := by
    refine PpSet.compLoopS_any (fun n s5 => ∃ i H5, Inv (X.blk s3 H3 scope ce fp) [] (wipe σ (own.map (·.2))) H5 s5 ∧ tn i s5.heap ∧ (∀ b ∈ fp, H5 b = none) ∧ W i n H5) (fun n s5 z => ?_) m0 ⟨0, H3, I4, st4, nfp, w0⟩
    obtain ⟨i, H5, I5, st5, n5, w5⟩ := z
    rcases turn i n H5 w5 with ⟨stop, qq⟩ | ⟨go, Nx, hNx, step⟩
    · refine thnF (T.done (X.blk s3 H3 scope ce fp) rfl rfl rfl hc i [] s5 _ H5 (fun _ _ => False) I5 (free I5 n5) st5 stop) fun r s6 z => ?_
      obtain ⟨rfl, I6⟩ := z
      have I7 : Inv X pins σ H5 s6 := I3.call' (ch := fp) I6.os I6.base I6.hok I6.bare fun b hb => ⟨(f3 b hb).1.2.2.2.1, (f3 b hb).1.2.1, (f3 b hb).1.2.2.2.2.1, (f3 b hb).1.2.2.2.2.2⟩
      have nC : H5 s3.heap.objs.size = none := by
        rw [← cL]
        exact I6.free
      obtain ⟨m, hn, _⟩ := I6.loc
      have hn2 : s6.heap.Ns s3.heap.objs.size m := by
        rw [← cL]
        exact hn
      exact back D s3.heap.objs.size s6 m H5 I7 qq hn2 (I3.fpOk (Nat.le_refl _) nC)
    · refine thnF (T.item (X.blk s3 H3 scope ce fp) rfl rfl rfl hc i [] s5 _ H5 (fun _ _ => False) I5 (free I5 n5) st5 go) fun r s6 z => ?_
      obtain ⟨u, rfl, h6⟩ := z
      refine thnF h6 fun _ s7 z7 => ?_
      obtain ⟨x, H7, I7, r7, y7, st7, n7⟩ := z7
      have P7 := I7.pinned (free I7 n7) (T.obj _ _ st7)
      refine thnF (pg.run _ s7 _ H7 x u _ P7 r7 (step x H7 y7)) fun _ s8 z8 => ?_
      obtain ⟨σ8, H8, I8, hw8, q8⟩ := z8
      refine thnF (pt.run _ s8 σ8 H8 _ I8 q8) fun b s9 z9 => ?_
      obtain ⟨H9, I9, q9⟩ := z9
      have fin : ∀ {σ9 : L2.St} {s10 : Shared} {H10 : Hp}, Inv (X.blk s3 H3 scope ce fp) ([] ++ pinsAt fp s7.heap) σ9 H10 s10 → (wipe σ (own.map (·.2))).length = σ9.length → (∀ (j : Nat) v, (wipe σ (own.map (·.2)))[j]? = some (some v) → σ9[j]? = some (some v)) → Nx H10 →
          ∃ m, m < n ∧ ∃ i H10, Inv (X.blk s3 H3 scope ce fp) [] (wipe σ (own.map (·.2))) H10 s10 ∧ tn i s10.heap ∧ (∀ b ∈ fp, H10 b = none) ∧ W i m H10 := fun {σ9 s10 H10} I10 hl hk nx => by
        obtain ⟨m1, hm, w1⟩ := hNx H10 nx
        have pin : ∀ b ∈ fp, ∀ u, s7.heap.get? b = some u → s10.heap.get? b = some u ∧ H10 b = none := fun b hb u z =>
          let y := I10.pin (b, u) (List.mem_append_right _ (List.mem_append_right _ (mem_pinsAt hb z)))
          ⟨y.1, y.2.1⟩
        refine ⟨m1, hm, i + 1, H10, (I10.unpinned (pins := [])).weak hl hk, T.keep _ _ _ st7 fun b hb u z => (pin b hb u z).1, fun b hb => ?_, w1⟩
        obtain ⟨u, z, _⟩ := T.obj _ _ st7 b hb
        exact (pin b hb u z).2
      have l8 : (wipe σ (own.map (·.2))).length = σ8.length := by rw [← hw8, wipe_length]
      have k8 : ∀ (j : Nat) v, (wipe σ (own.map (·.2)))[j]? = some (some v) → σ8[j]? = some (some v) := fun j v z => by
        rw [← hw8] at z
        exact (wipe_some z).1
      cases b with
      | false =>
        simp only [Bool.false_eq_true, if_false] at q9 ⊢
        exact fin I9 l8 k8 q9
      | true =>
        simp only [if_true] at q9 ⊢
        refine thnF (pe.run _ s9 σ8 H9 _ I9 q9) fun z1 s17 y17 => ?_
        obtain ⟨yv, H17, I17, r17, k1, L, rfl, hD17, few, nx⟩ := y17
        obtain ⟨tk, rfl⟩ := r17
        exact setRT_add (setT_get (X := X.blk s3 H3 scope ce fp) I17 hD17) few fun h18 sb r18 => fin (setT_write (X := X.blk s3 H3 scope ce fp) I17 hD17 sb r18) l8 k8 nx
  exact PpSet.codeAny_compStart_set loop (T.self X.A 0 _ _ _ st4 loop)
theorem pe_st1 {el tg iter : Expr} {ifs : List Expr} {scope : Scope} {own : List (Str × Nat)} {pos : Pos} {wi : TI} {g : TG} {tt : TT} {te : TE} (hc : X.calm = true) (hN : X.N.Nodup) (hi : PI X tg iter wi) (ok : BlkOk X.N X.env.scope scope own)
    (hg : ∀ (s : Shared) (H : Hp) (C : Addr) (cl : List (Str × Addr)) (fp : List Addr), PG (X.blk s H scope (compEnvC scope cl C X.env) fp) tg g)
    (ht : ∀ (s : Shared) (H : Hp) (C : Addr) (cl : List (Str × Addr)) (fp : List Addr), PTs (X.blk s H scope (compEnvC scope cl C X.env) fp) ifs tt)
    (he : ∀ (s : Shared) (H : Hp) (C : Addr) (cl : List (Str × Addr)) (fp : List Addr), PE (X.blk s H scope (compEnvC scope cl C X.env) fp) el te) (hs : ∀ x, foldedSetIterable iter X.env x = pure x := by intro _; rfl) :
    PE X (.SetComp el [⟨tg, iter, ifs, 0⟩] scope pos) (tst1 X.w wi g tt te (own.map (·.2))) := by
  refine ⟨fun pins s σ H Q I h => ?_⟩
  show wpAny _ _ (comprehension (.SetComp el [⟨tg, iter, ifs, 0⟩] scope pos) scope X.env _ (newSet (.type "set")) _ _) _ _ _
  refine core_s1 hc hN I hi ok hg ht he hs h fun D C s2 m H2 I2 q hn f => ⟨m, hn, fun h3 sb => ?_⟩
  obtain ⟨a0, a1, a2, a3, a4, a5⟩ := f
  exact ⟨.ref D, H2, I2.turned (t' := s2.toks) (fun b u hb z => (sb.2 b hb).trans z) a0 a1 a3 a4 a5, rfl, q⟩
end
theorem take_keepS {outs : List (Option Str)} {i : Nat} {o : Option Str} (h : outs[i]? = some o) : (outs.take (i + 1)).filterMap id = (outs.take i).filterMap id ++ o.toList := by
  rw [List.take_add_one, h, List.filterMap_append]
  cases o <;> rfl
/-- a set comprehension whose i-th item brings outs[i] (or nothing) -/
theorem sco {w0 : World} {J : It} {n : Nat} {Im : Nat → V → Hp → Prop} (outs : List (Option Str)) {g : TG} {tt : TT} {te : TE} {vs : List Nat} {σ : L2.St} {H1 : Hp} {D : Addr} {Qd : Hp → Prop}
    (w : Walk J n Im H1 D) (hl : outs.length = n) (hz : n + 1 < scanBound) (hD : H1 D = none)
    (turn : ∀ (i : Nat) (x : V) (o : Option Str) (H : Hp) (R : V → Hp → Prop) (R0 : Hp → Prop), i < n → Im i x H → outs[i]? = some o → Same H1 H → (∀ k H2, o = some k → Same H H2 → R (.str k) H2) → (∀ H2, o = none → Same H H2 → R0 H2) →
      g x (wipe σ vs) H fun σ2 H2 => wipe σ2 vs = wipe σ vs ∧ tt σ2 H2 fun b H3 => if b = true then te σ2 H3 R else R0 H3)
    (k : ∀ H, Same H1 H → H D = some (SetT w0 D (firsts (outs.filterMap id))) → Qd H) :
    ∃ W : Nat → Nat → Hp → Prop, (∃ m, W 0 m (upd H1 D (SetT w0 D []))) ∧ ∀ i m H, W i m H →
  (J.stop i H ∧ Qd H) ∨ (J.go i H ∧ ∃ Nx : Hp → Prop, (∀ H2, Nx H2 → ∃ k, k < m ∧ W (i + 1) k H2) ∧ ∀ x H2, J.yld i H x H2 → g x (wipe σ vs) H2 fun σ2 H3 => wipe σ2 vs = wipe σ vs ∧ tt σ2 H3 fun b H4 =>
    if b = true then te σ2 H4 fun y H5 => ∃ (k : Str) (L : List Str), y = .str k ∧ H5 D = some (SetT w0 D L) ∧ L.length + 1 < scanBound ∧ Nx (upd H5 D (SetT w0 D (ins L k))) else Nx H4) := by
  refine ⟨fun i m H => m = n - i ∧ i ≤ n ∧ Sab D H1 H ∧ H D = some (SetT w0 D (firsts ((outs.take i).filterMap id))), ⟨n, rfl, Nat.zero_le _, fun b o hb e => by rw [upd_ne hb]; exact e, upd_same⟩, ?_⟩
  rintro i m H ⟨rfl, hi, sb, hh⟩
  by_cases lt : i < n
  · have lo : i < outs.length := by omega
    refine .inr ⟨w.go i H lt sb, fun H2 => i + 1 ≤ n ∧ Sab D H1 H2 ∧ H2 D = some (SetT w0 D (firsts ((outs.take (i + 1)).filterMap id))), fun H2 z => ⟨n - (i + 1), by omega, rfl, z⟩, fun x H2 y => ?_⟩
    obtain ⟨s2, hx⟩ := w.yld i H x H2 sb lt y
    have sb2 : Sab D H1 H2 := sb.trans (sab_of s2)
    have hl2 := s2 _ _ hh
    have ho := List.getElem?_eq_getElem lo
    refine turn i x _ H2 _ _ lt hx ho (sb2.same (Same.refl _) hD) (fun k H3 e s3 => ?_) (fun H3 e s3 => ?_)
    · refine ⟨k, _, rfl, s3 _ _ hl2, ?_, lt, (sb2.trans (sab_of s3)).upd, ?_⟩
      · have z0 := firsts_len ((outs.take i).filterMap id)
        have z1 := List.length_filterMap_le id (outs.take i)
        rw [List.length_take] at z1
        omega
      · rw [upd_same, take_keepS ho, e, ← foldl_firsts]
        rfl
    · refine ⟨lt, sb2.trans (sab_of s3), ?_⟩
      rw [s3 _ _ hl2, take_keepS ho, e]
      simp
  · have e : i = n := by omega
    subst e
    rw [List.take_of_length_le (by omega)] at hh
    exact .inl ⟨w.stop H sb, k H (sb.same (Same.refl _) hD) hh⟩
end LK
namespace LK
open PySem PySem.Spec PyProof.Rows L2
/-- a text that is one of these -/
def isIn (zs : List Str) : PyData → Bool
  | .str z => decide (z ∈ zs)
  | _ => false
theorem any_eqv_strs (zs : List Str) (d : PyData) : (zs.map PyData.str).any (fun y => PyData.eqv y d) = isIn zs d := by
  rw [List.any_map]
  cases d with
  | str z =>
    show zs.any (fun y => y == z) = decide (z ∈ zs)
    by_cases h : z ∈ zs
    · rw [decide_eq_true h, List.any_eq_true]
      exact ⟨z, h, beq_self_eq_true z⟩
    · rw [decide_eq_false h, List.any_eq_false]
      intro y hy e
      exact h (eq_of_beq e ▸ hy)
  | _ =>
    show zs.any (fun _ => false) = false
    rw [List.any_eq_false]
    intro _ _ e
    cases e
theorem depth_strs0 : ∀ (zs : List Str), PyData.depthAll (zs.map PyData.str) = 0
  | [] => rfl
  | z :: zs => by
    show max 0 (PyData.depthAll (zs.map PyData.str)) = 0
    rw [depth_strs0 zs]
    rfl
section
variable {X : Cx}
/-- x in zs, x not in zs: x any data, zs a row of texts -/
def rInN (neg : Bool) : R2 := fun x y H Q => ∃ (d : PyData) (zs : List Str), Dr H x d ∧ (Dr H y (.tuple (zs.map PyData.str)) ∨ Dr H y (.list (zs.map PyData.str))) ∧ PyData.canLayAll0 (zs.map PyData.str) = true ∧ d.canLay0 = true ∧ Q (.bl (if neg then !isIn zs d else isIn zs d)) H
theorem op_inN (hu : X.A.units + 64 < cLine) : OpR X (compareOp .In) (rInN false) := by
  intro pins s σ H x y v u Q I rx ry h
  obtain ⟨d, zs, hd, hy, hc, hl, q⟩ := h
  obtain ⟨_, ra, _⟩ := Dr.reads I d x v hd rx
  have room : X.A.units + 1 + min (PyData.depthAll (zs.map PyData.str)) d.depth < cLine := by
    rw [depth_strs0, Nat.zero_min]
    omega
  rcases hy with hy | hy
  · obtain ⟨_, rb, _⟩ := Dr.reads I _ y u hy ry
    exact SeqAt.in_tuple_reads rb ra hc hl room ⟨.bl (isIn zs d), H, I, by rw [any_eqv_strs]; rfl, q⟩
  · obtain ⟨_, rb, _⟩ := Dr.reads I _ y u hy ry
    exact SeqAt.in_list_reads rb ra hc hl room ⟨.bl (isIn zs d), H, I, by rw [any_eqv_strs]; rfl, q⟩
theorem op_notInN (hu : X.A.units + 64 < cLine) : OpR X (compareOp .NotIn) (rInN true) := by
  intro pins s σ H x y v u Q I rx ry h
  obtain ⟨d, zs, hd, hy, hc, hl, q⟩ := h
  obtain ⟨_, ra, _⟩ := Dr.reads I d x v hd rx
  have room : X.A.units + 1 + min (PyData.depthAll (zs.map PyData.str)) d.depth < cLine := by
    rw [depth_strs0, Nat.zero_min]
    omega
  rcases hy with hy | hy
  · obtain ⟨_, rb, _⟩ := Dr.reads I _ y u hy ry
    exact SeqAt.notIn_tuple_reads rb ra hc hl room ⟨.bl (!isIn zs d), H, I, by rw [any_eqv_strs]; rfl, q⟩
  · obtain ⟨_, rb, _⟩ := Dr.reads I _ y u hy ry
    exact SeqAt.notIn_list_reads rb ra hc hl room ⟨.bl (!isIn zs d), H, I, by rw [any_eqv_strs]; rfl, q⟩
end
theorem flatA_app {a b : List PyData} : flatA (a ++ b) = (flatA a && flatA b) := by
  induction a with
  | nil => rfl
  | cons d a ih =>
    show (flatD d && flatA (a ++ b)) = ((flatD d && flatA a) && flatA b)
    rw [ih, Bool.and_assoc]
theorem lco2R {J : It} {n : Nat} {Im : Nat → V → Hp → Prop} (outss : List (List PyData)) {g : TG} {wi1 : TI} {g1 : TG} {te : TE} {vs vs1 : List Nat} {σ : L2.St} {H1 : Hp} {D : Addr} {Qd : Hp → Prop}
    (w : Walk J n Im H1 D) (hl : outss.length = n) (hf : flatA outss.flatten = true) (hz : outss.flatten.length ≤ sizeLine) (hD : H1 D = none)
    (turn : ∀ (i : Nat) (x : V) (os : List PyData) (H : Hp) (K0 : L2.St → L2.It → Hp → Prop), i < n → Im i x H → outss[i]? = some os → Same H1 H → (∃ acc, H D = some (.lst acc)) →
      (∀ σ2 H4 J1 (It1 : Nat → V → Hp → Prop), Same H H4 → Walk J1 os.length It1 H4 D →
        (∀ (j : Nat) (y : V) (d : PyData) (H5 : Hp) (R : V → Hp → Prop), j < os.length → It1 j y H5 → os[j]? = some d → Sab D H4 H5 → (∃ acc, H5 D = some (.lst acc)) → (∀ v H6, Same H5 H6 → Dr H6 v d → R v H6) → g1 y (wipe σ2 vs1) H5 fun σ3 H6 => wipe σ3 vs1 = wipe σ2 vs1 ∧ te σ3 H6 R) → K0 σ2 J1 H4) →
      g x (wipe σ vs) H fun σ2 H2 => wipe σ2 vs = wipe σ vs ∧ wi1 σ2 H2 fun J1 H4 => K0 σ2 J1 H4)
    (k : ∀ H us, Same H1 H → DrAll H us outss.flatten → H D = some (.lst us) → Qd H) :
    ∃ W : Nat → Nat → Hp → Prop, (∃ m, W 0 m (upd H1 D (.lst []))) ∧ ∀ i m H, W i m H →
  (J.stop i H ∧ Qd H) ∨ (J.go i H ∧ ∃ Nx : Hp → Prop, (∀ H2, Nx H2 → ∃ m2, m2 < m ∧ W (i + 1) m2 H2) ∧ ∀ x H2, J.yld i H x H2 → g x (wipe σ vs) H2 fun σ2 H2 => wipe σ2 vs = wipe σ vs ∧ tYes σ2 H2 fun b H3 =>
    if b = true then wi1 σ2 H3 fun J1 H4 => ∃ W1 : Nat → Nat → Hp → Prop, (∃ m, W1 0 m H4) ∧ ∀ j k H, W1 j k H →
      (J1.stop j H ∧ Nx H) ∨ (J1.go j H ∧ ∃ Nx1 : Hp → Prop, (∀ H2, Nx1 H2 → ∃ k2, k2 < k ∧ W1 (j + 1) k2 H2) ∧ ∀ x H2, J1.yld j H x H2 → g1 x (wipe σ2 vs1) H2 fun σ3 H5 => wipe σ3 vs1 = wipe σ2 vs1 ∧ tYes σ3 H5 fun b H6 =>
        if b = true then te σ3 H6 fun y H7 => ∃ acc, H7 D = some (.lst acc) ∧ acc.length < sizeLine ∧ Nx1 (upd H7 D (.lst (acc ++ [y]))) else Nx1 H6)
    else Nx H3) := by
  refine ⟨fun i m H => m = n - i ∧ i ≤ n ∧ Sab D H1 H ∧ ∃ us, H D = some (.lst us) ∧ DrAll H us (outss.take i).flatten, ⟨n, rfl, Nat.zero_le _, fun b o hb e => by rw [upd_ne hb]; exact e, [], upd_same, .nil⟩, ?_⟩
  rintro i m H ⟨rfl, hi, sb, us, hh, hus⟩
  by_cases lt : i < n
  · have lo : i < outss.length := by omega
    refine .inr ⟨w.go i H lt sb, fun H2 => i + 1 ≤ n ∧ Sab D H1 H2 ∧ ∃ us, H2 D = some (.lst us) ∧ DrAll H2 us (outss.take (i + 1)).flatten, fun H2 z => ⟨n - (i + 1), by omega, rfl, z⟩, fun x H2 y => ?_⟩
    obtain ⟨s2, hx⟩ := w.yld i H x H2 sb lt y
    have sb2 : Sab D H1 H2 := sb.trans (sab_of s2)
    have hl2 := s2 _ _ hh
    have ho := List.getElem?_eq_getElem lo
    obtain ⟨rest, hrest⟩ := flatK_pre ho
    have hrl := congrArg List.length hrest
    rw [List.length_append, List.length_append] at hrl
    have hff : ∀ j, flatA ((outss.take i).flatten ++ (outss[i]).take j) = true := fun j => by
      rw [hrest, flatA_app, flatA_app, Bool.and_eq_true, Bool.and_eq_true] at hf
      rw [flatA_app, hf.1.1, flatA_take hf.1.2]
      rfl
    refine turn i x _ H2 _ lt hx ho (sb2.same (Same.refl _) hD) ⟨_, hl2⟩ (fun σ2 H4 J1 It1 s4 w1 tn => ?_)
    have sb4 : Sab D H1 H4 := sb2.trans (sab_of s4)
    refine ⟨fun j k H => k = (outss[i]).length - j ∧ j ≤ (outss[i]).length ∧ Sab D H4 H ∧ ∃ us, H D = some (.lst us) ∧ DrAll H us ((outss.take i).flatten ++ (outss[i]).take j), ⟨_, rfl, Nat.zero_le _, Sab.refl, us, s4 _ _ hl2, by rw [List.take_zero, List.append_nil]; exact (hus.mono s2).mono s4⟩, ?_⟩
    rintro j k H5 ⟨rfl, hj, sb5, us5, hh5, hus5⟩
    by_cases lj : j < (outss[i]).length
    · refine .inr ⟨w1.go j H5 lj sb5, fun H6 => j + 1 ≤ (outss[i]).length ∧ Sab D H4 H6 ∧ ∃ us, H6 D = some (.lst us) ∧ DrAll H6 us ((outss.take i).flatten ++ (outss[i]).take (j + 1)), fun H6 z => ⟨(outss[i]).length - (j + 1), by omega, rfl, z⟩, fun y H6 yy => ?_⟩
      obtain ⟨s6, hy⟩ := w1.yld j H5 y H6 sb5 lj yy
      have sb6 : Sab D H4 H6 := sb5.trans (sab_of s6)
      have hl6 := s6 _ _ hh5
      have hj1 := List.getElem?_eq_getElem lj
      refine tn j y ((outss[i])[j]) H6 _ lj hy hj1 sb6 ⟨_, hl6⟩ (fun v H7 s7 hv => ?_)
      have h7 := s7 _ _ hl6
      have hus7 := (hus5.mono s6).mono s7
      have hul := hus5.len
      rw [List.length_append, List.length_take] at hul
      refine ⟨_, h7, ?_, lj, (sb6.trans (sab_of s7)).upd, us5 ++ [v], upd_same, ?_⟩
      · have z1 : (outss.take i).flatten.length + (outss[i]).length ≤ sizeLine := by omega
        omega
      · have st := sab_tups (H1 := upd H7 D (.lst (us5 ++ [v]))) h7 Sab.refl.upd
        have e1 : (outss.take i).flatten ++ (outss[i]).take (j + 1) = ((outss.take i).flatten ++ (outss[i]).take j) ++ [(outss[i])[j]] := by
          rw [List.take_add_one, hj1, List.append_assoc]
          rfl
        have f1 := hff (j + 1)
        rw [e1] at f1 ⊢
        exact (hus7.snoc hv).tups st f1
    · have e : j = (outss[i]).length := by omega
      subst e
      rw [List.take_length] at hus5
      exact .inl ⟨w1.stop H5 sb5, lt, sb4.trans sb5, us5, hh5, by rw [flatK ho]; exact hus5⟩
  · have e : i = n := by omega
    subst e
    rw [List.take_of_length_le (by omega)] at hus
    exact .inl ⟨w.stop H sb, k H us (sb.same (Same.refl _) hD) hus hh⟩
end LK
namespace LK
open PySem PySem.Spec PyProof.Rows L2

/-! ### lines -/
def isGroupD (rs : List Str) : PyData → Bool
  | .tuple ds => decide (2 ≤ ds.length) && (ds.all (isIn rs) && ascS (namesD ds))
  | _ => false
def isItemD (rs : List Str) (d : PyData) : Bool := isIn rs d || isGroupD rs d
def isLineD (rs : List Str) : PyData → Bool
  | .tuple ds => decide (ds.length ≤ 200) && ds.all (isItemD rs)
  | _ => false
theorem isIn_str {rs : List Str} : ∀ {d : PyData}, isIn rs d = true → ∃ z, d = .str z ∧ z ∈ rs
  | .str z, h => ⟨z, rfl, of_decide_eq_true h⟩
theorem in_names {rs : List Str} : ∀ {ds : List PyData}, ds.all (isIn rs) = true → ds = (namesD ds).map PyData.str ∧ ∀ z ∈ namesD ds, z ∈ rs
  | [], _ => ⟨rfl, fun z h => (nomatch h)⟩
  | d :: ds, h => by
    rw [List.all_cons, Bool.and_eq_true] at h
    obtain ⟨z, rfl, hz⟩ := isIn_str h.1
    obtain ⟨e, hs⟩ := in_names h.2
    refine ⟨?_, fun y hy => ?_⟩
    · show PyData.str z :: ds = PyData.str z :: (namesD ds).map PyData.str
      rw [← e]
    · have hy : y ∈ z :: namesD ds := hy
      rcases List.mem_cons.mp hy with e | e
      · rw [e]
        exact hz
      · exact hs y e
theorem lay_get : ∀ {ds : List PyData} {i : Nat} {d : PyData}, PyData.canLayAll0 ds = true → ds[i]? = some d → d.canLay0 = true
  | d :: ds, 0, _, h, e => by
    cases e
    exact (Bool.and_eq_true_iff.mp (show (d.canLay0 && PyData.canLayAll0 ds) = true from h)).1
  | d :: ds, i + 1, x, h, e => lay_get (Bool.and_eq_true_iff.mp (show (d.canLay0 && PyData.canLayAll0 ds) = true from h)).2 (show ds[i]? = some x from e)
/-- [name in names for name in value] -/
def spGr : Sp := fun vs H Q _ => ∃ (p v : V) (rs : List Str) (d : PyData), vs = [p, v] ∧ Dr H p (strsD rs) ∧ rs.all isNameS = true ∧ Dr H v d ∧ d.canLay0 = true ∧ Fit d ∧ ∀ H2, Same H H2 → Q (.bl (isGroupD rs d)) H2

def spLn (C : Addr) : Sp := fun vs H Q _ => ∃ (x : Addr) (v : V) (as : List PyData) (d : PyData), vs = [.ref x, v] ∧ LibR C H x as ∧ areArchivesL as = true ∧ Dr H v d ∧ d.canLay0 = true ∧ Fit d ∧ ∀ H2, Same H H2 → Q (.bl (isLineD (as.map nm0) d)) H2
theorem rooms_ok {as : List PyData} (hok : areArchivesL as = true) : (as.map nm0).all isNameS = true := by
  obtain ⟨k1, _⟩ := arch_facts hok
  rw [List.all_map, List.all_eq_true]
  intro a ha
  obtain ⟨z, ms, rfl, h1, _⟩ := isArchive_sh (List.all_eq_true.mp k1 a ha)
  exact h1
/-- the names of an item -/
def itemL : PyData → List Str
  | .str z => [z]
  | .tuple ds => namesD ds
  | _ => []
def IsItem (d : PyData) : Prop := (∃ z, d = .str z) ∨ ∃ zs, d = strsD zs
def spAi : Sp := fun vs H Q _ => ∃ (v : V) (d : PyData), vs = [v] ∧ Dr H v d ∧ IsItem d ∧ ∀ u H2, Same H H2 → Dr H2 u (strsD (itemL d)) → Q u H2
/-- how many letters are read -/
def readL : List (List Str) → List Str → Nat
  | [], _ => 0
  | it :: r, ls => (ls.takeWhile fun z => decide (z ∈ it)).length + readL r (ls.drop (ls.takeWhile fun z => decide (z ∈ it)).length)
theorem tw_len (p : Str → Bool) (l : List Str) : (l.takeWhile p).length ≤ l.length := (List.takeWhile_sublist p).length_le
theorem tw_in {p : Str → Bool} : ∀ {l : List Str} {i : Nat} {z : Str}, i < (l.takeWhile p).length → l[i]? = some z → p z = true
  | [], i, z, h, e => by simp at e
  | a :: l, i, z, h, e => by
    rw [List.takeWhile_cons] at h
    cases hp : p a with
    | false =>
      rw [hp] at h
      exact absurd h (Nat.not_lt_zero _)
    | true =>
      rw [hp] at h
      cases i with
      | zero =>
        cases e
        exact hp
      | succ i => exact tw_in (l := l) (i := i) (by rw [if_pos rfl, List.length_cons] at h; omega) e
theorem tw_stop {p : Str → Bool} : ∀ {l : List Str} {z : Str}, l[(l.takeWhile p).length]? = some z → p z = false
  | [], z, e => by simp at e
  | a :: l, z, e => by
    rw [List.takeWhile_cons] at e
    cases hp : p a with
    | false =>
      rw [hp] at e
      cases e
      exact hp
    | true =>
      rw [hp, if_pos rfl, List.length_cons] at e
      exact tw_stop (l := l) e
def spRa : Sp := fun vs H Q _ => ∃ (v u : V) (ds : List PyData) (ls : List Str), vs = [v, u] ∧ Dr H v (.tuple ds) ∧ (∀ d ∈ ds, IsItem d) ∧ Dr H u (strsD ls) ∧ ds.length ≤ 1000 ∧ ls.length ≤ 1000 ∧ ∀ H2, Same H H2 → Q (.int (readL (ds.map itemL) ls : Nat)) H2
def spLr (C : Addr) : Sp := fun vs H Q _ => ∃ (x : Addr) (v u : V) (as ds : List PyData) (ls : List Str), vs = [.ref x, v, u] ∧ LibR C H x as ∧ areArchivesL as = true ∧ Dr H v (.tuple ds) ∧ isLineD (as.map nm0) (.tuple ds) = true ∧ PyData.canLayAll0 ds = true ∧ Fit (.tuple ds) ∧ Dr H u (strsD ls) ∧ ls.length ≤ 1000 ∧ ∀ H2, Same H H2 → Q (.int (readL (ds.map itemL) ls : Nat)) H2
theorem items_of {rs : List Str} {ds : List PyData} (h : isLineD rs (.tuple ds) = true) : (∀ d ∈ ds, IsItem d) ∧ ds.length ≤ 200 ∧ ∀ d ∈ ds, ∀ z ∈ itemL d, z ∈ rs := by
  have h0 : (decide (ds.length ≤ 200) && ds.all (isItemD rs)) = true := h
  rw [Bool.and_eq_true] at h0
  have it : ∀ d ∈ ds, IsItem d ∧ ∀ z ∈ itemL d, z ∈ rs := fun d hd => by
    have h1 := List.all_eq_true.mp h0.2 d hd
    have h2 : (isIn rs d || isGroupD rs d) = true := h1
    rw [Bool.or_eq_true] at h2
    rcases h2 with h2 | h2
    · obtain ⟨z, rfl, hz⟩ := isIn_str h2
      refine ⟨.inl ⟨z, rfl⟩, fun y hy => ?_⟩
      rw [List.mem_singleton.mp hy]
      exact hz
    · cases d with
      | tuple es =>
        have h3 : (decide (2 ≤ es.length) && (es.all (isIn rs) && ascS (namesD es))) = true := h2
        rw [Bool.and_eq_true, Bool.and_eq_true] at h3
        obtain ⟨e, hs⟩ := in_names h3.2.1
        exact ⟨.inr ⟨namesD es, by show PyData.tuple es = .tuple _; rw [← e]⟩, hs⟩
      | _ => cases h2
  exact ⟨fun d hd => (it d hd).1, of_decide_eq_true h0.1, fun d hd => (it d hd).2⟩

end LK
namespace LK
open PySem PySem.Spec PyProof.Rows L2
/-! ### reading, by places -/
def stepP (it ls : List Str) (p : Nat) : Nat := p + ((ls.drop p).takeWhile fun z => decide (z ∈ it)).length
def foldP (ls : List Str) : List (List Str) → Nat → Nat
  | [], p => p
  | it :: r, p => foldP ls r (stepP it ls p)
theorem read_fold (ls : List Str) : ∀ (its : List (List Str)) (p : Nat), p + readL its (ls.drop p) = foldP ls its p
  | [], p => rfl
  | it :: r, p => by
    show p + (((ls.drop p).takeWhile fun z => decide (z ∈ it)).length + readL r ((ls.drop p).drop ((ls.drop p).takeWhile fun z => decide (z ∈ it)).length)) = foldP ls r (stepP it ls p)
    rw [← read_fold ls r, List.drop_drop, ← Nat.add_assoc]
    rfl
theorem read_zero (ls : List Str) (its : List (List Str)) : readL its ls = foldP ls its 0 := by
  have h := read_fold ls its 0
  rw [List.drop_zero, Nat.zero_add] at h
  exact h
theorem place_mono {it it2 ls : List Str} {p p2 : Nat} (hs : ∀ z ∈ it, z ∈ it2) (h : p ≤ p2) : stepP it ls p ≤ stepP it2 ls p2 := by
  have hk := tw_len (fun z => decide (z ∈ it)) (ls.drop p)
  rw [List.length_drop] at hk
  unfold stepP
  rcases Nat.lt_or_ge (p2 + ((ls.drop p2).takeWhile fun z => decide (z ∈ it2)).length) (p + ((ls.drop p).takeWhile fun z => decide (z ∈ it)).length) with c | c
  · exfalso
    have hlt : p2 + ((ls.drop p2).takeWhile fun z => decide (z ∈ it2)).length < ls.length := by omega
    obtain ⟨z, hz⟩ : ∃ z, ls[p2 + ((ls.drop p2).takeWhile fun z => decide (z ∈ it2)).length]? = some z := ⟨_, List.getElem?_eq_getElem hlt⟩
    have h1 : (ls.drop p2)[((ls.drop p2).takeWhile fun z => decide (z ∈ it2)).length]? = some z := by rw [List.getElem?_drop, hz]
    have h2 := tw_stop (p := fun z => decide (z ∈ it2)) h1
    have h3 : (ls.drop p)[p2 + ((ls.drop p2).takeWhile fun z => decide (z ∈ it2)).length - p]? = some z := by rw [List.getElem?_drop, ← hz]; congr 1; omega
    have h4 := tw_in (p := fun z => decide (z ∈ it)) (i := p2 + ((ls.drop p2).takeWhile fun z => decide (z ∈ it2)).length - p) (by omega) h3
    rw [decide_eq_true (hs z (of_decide_eq_true h4))] at h2
    cases h2
  · exact c
theorem fold_mono {ls : List Str} : ∀ {its : List (List Str)} {p p2 : Nat}, p ≤ p2 → foldP ls its p ≤ foldP ls its p2
  | [], _, _, h => h
  | it :: r, p, p2, h => fold_mono (its := r) (place_mono (fun _ z => z) h)
theorem fold_app (ls : List Str) : ∀ (a b : List (List Str)) (p : Nat), foldP ls (a ++ b) p = foldP ls b (foldP ls a p)
  | [], b, p => rfl
  | it :: a, b, p => fold_app ls a b _
theorem read_ins (ls : List Str) (a b : List (List Str)) (x : List Str) : readL (a ++ b) ls ≤ readL (a ++ x :: b) ls := by
  rw [read_zero, read_zero, fold_app, fold_app]
  exact fold_mono (Nat.le_add_right _ _)
theorem read_big (ls : List Str) (a b : List (List Str)) {x y : List Str} (h : ∀ z ∈ x, z ∈ y) : readL (a ++ x :: b) ls ≤ readL (a ++ y :: b) ls := by
  rw [read_zero, read_zero, fold_app, fold_app]
  exact fold_mono (place_mono h (Nat.le_refl _))
/-- no two neighbours are equal -/
def altS : List Str → Prop
  | [] => True
  | [_] => True
  | a :: b :: r => a ≠ b ∧ altS (b :: r)
theorem read_self : ∀ (ls : List Str), altS ls → readL (ls.map fun z => [z]) ls = ls.length
  | [], _ => rfl
  | [a], _ => by
    show (([a].takeWhile fun z => decide (z ∈ [a])).length + 0) = 1
    rw [List.takeWhile_cons, decide_eq_true (List.mem_singleton.mpr rfl)]
    rfl
  | a :: b :: r, h => by
    have e : ((a :: b :: r).takeWhile fun z => decide (z ∈ [a])) = [a] := by
      rw [List.takeWhile_cons, decide_eq_true (List.mem_singleton.mpr rfl), if_pos rfl, List.takeWhile_cons, decide_eq_false (fun z => h.1 (List.mem_singleton.mp z).symm)]
      rfl
    show (((a :: b :: r).takeWhile fun z => decide (z ∈ [a])).length + readL ((b :: r).map fun z => [z]) ((a :: b :: r).drop ((a :: b :: r).takeWhile fun z => decide (z ∈ [a])).length)) = _
    rw [e]
    show 1 + readL ((b :: r).map fun z => [z]) (b :: r) = _
    rw [read_self (b :: r) h.2, Nat.add_comm]
    rfl
theorem alt_snoc : ∀ {ls : List Str} {z : Str}, altS ls → (∀ y, ls.getLast? = some y → y ≠ z) → altS (ls ++ [z])
  | [], z, _, _ => trivial
  | [a], z, _, h => ⟨h a rfl, trivial⟩
  | a :: b :: r, z, h, k => ⟨h.1, alt_snoc (ls := b :: r) h.2 fun y hy => k y (by rw [List.getLast?_cons_cons]; exact hy)⟩
theorem read_nil : ∀ (its : List (List Str)), readL its [] = 0
  | [] => rfl
  | it :: r => by
    show (([] : List Str).takeWhile fun z => decide (z ∈ it)).length + readL r (([] : List Str).drop _) = 0
    rw [List.drop_nil, read_nil r]
    rfl
end LK
namespace LK
open PySem PySem.Spec PyProof.Rows L2
/-! ### values that are written out -/
def Lit (te : TE) (d : PyData) : Prop := ∀ (σ : L2.St) (H : Hp) (Q : VK), (∀ v H2, Same H H2 → Dr H2 v d → Q v H2) → te σ H Q
def LitA (ta : TA) (ds : List PyData) : Prop := ∀ (σ : L2.St) (H : Hp) (Q : List V → Hp → Prop), (∀ vs H2, Same H H2 → DrAll H2 vs ds → Q vs H2) → ta σ H Q
theorem lit_str {z : Str} : Lit (tC (.str z)) (.str z) := fun σ H Q k => k _ _ (Same.refl _) (.str z)
theorem lit_int {i : Int} : Lit (tC (.int i)) (.int i) := fun σ H Q k => k _ _ (Same.refl _) (.int i)
theorem lit_bl {b : Bool} : Lit (tC (.bl b)) (.bool b) := fun σ H Q k => k _ _ (Same.refl _) (.bl b)
theorem lit_non : Lit (tC .non) .none := fun σ H Q k => k _ _ (Same.refl _) .non
theorem lita_nil : LitA tNil [] := fun σ H Q k => k _ _ (Same.refl _) .nil
theorem lita_cons {te : TE} {tr : TA} {d : PyData} {ds : List PyData} (h : Lit te d) (k : LitA tr ds) : LitA (tCons te tr) (d :: ds) := fun σ H Q q =>
  h σ H _ fun v H1 s1 hv => k σ H1 _ fun vs H2 s2 hvs => q _ _ (same_tr s1 s2) (.cons (hv.mono s2) hvs)
theorem lit_tup {ta : TA} {ds : List PyData} (k : LitA ta ds) (hl : ds.length ≤ sizeLine := by decide) : Lit (tTup ta) (.tuple ds) := fun σ H Q q =>
  k σ H _ fun vs H1 s1 hvs => ⟨by rw [hvs.len]; exact hl, fun p np => q _ _ (same_tr s1 (same_upd np)) (.tup upd_same (hvs.mono (same_upd np)))⟩
theorem lit_lst {ta : TA} {ds : List PyData} (k : LitA ta ds) (hl : ds.length ≤ sizeLine := by decide) : Lit (tLst ta) (.list ds) := fun σ H Q q =>
  k σ H _ fun vs H1 s1 hvs => ⟨by rw [hvs.len]; exact hl, fun p np => q _ _ (same_tr s1 (same_upd np)) (.lst upd_same (hvs.mono (same_upd np)))⟩
/-- Library(e) -/
theorem lib_make {C : Addr} {σ : L2.St} {H : Hp} {Q : VK} {te : TE} {as : List PyData} (hte : ∀ Q2 : VK, (∀ v H2, Same H H2 → Dr H2 v (.tuple as) → Q2 v H2) → te σ H Q2) (hok : areArchivesL as = true) (hz : szL as ≤ 900000)
    (k : ∀ xl H2, Same H H2 → H xl = none → LibR C H2 xl as → Q (.ref xl) H2) : tMake C (spLI C) [] (fun _ _ _ => False) (tCons te tNil) σ H Q := by
  refine hte _ fun v H1 s1 hv => ?_
  refine fun xl dx nx ndx nex => ?_
  have b1 := same_upd (o := .own xl) ndx
  have nx1 : upd H1 dx (.own xl) xl = none := by
    rw [upd_ne (fun z => nex z.symm)]
    exact nx
  have b2 := same_upd (o := .ins C dx []) nx1
  have bb := same_tr b1 b2
  refine ⟨xl, dx, v, as, rfl, upd_same, hv.mono bb, hz, hok, fun G hL sb => ⟨rfl, ?_⟩⟩
  have s2 : Same H1 G := fun b o e => sb b o (ne_of_none e nx) (bb _ _ e)
  exact k xl G (same_tr s1 s2) (none_of_same s1 nx) hL
end LK
namespace LK
open PySem PySem.Spec PyProof.Rows L2
/-! ### libraries with the same members -/
section
variable {ms ms0 : List PyData} {ds ns : List Str}
theorem memF_perm (F : LibF ms) (F0 : LibF ms0) (p : ms.Perm ms0) {n : Str} (h : n ∈ ms.map nm0) : memF ms (.str n) = memF ms0 (.str n) := by
  obtain ⟨h1, h2⟩ := memF_mem h
  have h3 := memF_of F0.nam (p.mem_iff.mp h1)
  rw [h2] at h3
  exact h3.symm
theorem look_perm (F : LibF ms) (F0 : LibF ms0) (p : ms.Perm ms0) {s n : Str} (h : (srcS ms).lookup s = some n) : (srcS ms0).lookup s = some n := by
  obtain ⟨h1, h2⟩ := (look_iff F).mp h
  refine (look_iff F0).mpr ⟨(p.map nm0).mem_iff.mp h1, ?_⟩
  unfold defsOf at h2 ⊢
  rw [← memF_perm F F0 p h1]
  exact h2
theorem ned_perm (F : LibF ms) (F0 : LibF ms0) (p : ms.Perm ms0) {n : Str} (h : n ∈ ms.map nm0) : ned ms n = ned ms0 n := by
  unfold ned
  rw [memF_perm F F0 p h]
theorem clos_perm1 (F : LibF ms) (F0 : LibF ms0) (p : ms.Perm ms0) (hn : ns.length ≤ 200) : ∀ r ∈ closS ms ds ns, r ∈ closS ms0 ds ns :=
  closS_le F fun n h => closS_closed F0 hn n (by
    obtain ⟨s, h1, h2⟩ := (mem_step F).mp h
    obtain ⟨h3, h4⟩ := mem_needed.mp h2
    refine (mem_step F0).mpr ⟨s, look_perm F F0 p h1, mem_needed.mpr ⟨?_, h4⟩⟩
    rcases h3 with h3 | ⟨m, hm, h5⟩
    · exact .inl h3
    · refine .inr ⟨m, hm, ?_⟩
      have z := (p.map nm0).mem_iff.mpr ((closS_sub ms0 ds ns).2 m hm)
      rw [ned_perm F F0 p z] at h5
      exact h5)
theorem sclos_perm (F : LibF ms) (F0 : LibF ms0) (p : ms.Perm ms0) (hn : ns.length ≤ 200) : sortS (closS ms ds ns) = sortS (closS ms0 ds ns) :=
  asc_eq asc_clos asc_clos fun x => by
    rw [mem_sclos, mem_sclos]
    exact ⟨clos_perm1 F F0 p hn x, clos_perm1 F0 F p.symm hn x⟩
theorem mems_perm (F : LibF ms) (F0 : LibF ms0) (p : ms.Perm ms0) {R : List Str} (h : ∀ r ∈ R, r ∈ ms.map nm0) : memsOf ms R = memsOf ms0 R := by
  unfold memsOf
  exact List.map_congr_left fun r hr => memF_perm F F0 p (h r hr)
theorem sort_is {L E : List Str} (hE : ascS E = true) (hL : L.Nodup) (h : ∀ x, x ∈ L ↔ x ∈ E) : sortS L = E := asc_eq (asc_sort hL) hE fun x => by rw [(sortS_perm _).mem_iff, h]
end
end LK
namespace LK
open PySem PySem.Spec PyProof.Rows L2
theorem und_ok {ms : List PyData} {ds ns R : List Str} (F0 : LibF ms) (c4 : ∀ r ∈ R, r ∈ ms.map nm0) (n1 : ns.all isNameS = true) : (undL ds ns (memsOf ms R)).all isNameS = true ∧ (undL ds ns (memsOf ms R)).length ≤ ns.length + 8 * R.length := by
  have mok := List.all_eq_true.mp (mems_ok F0.mem c4)
  refine ⟨?_, ?_⟩
  · rw [List.all_eq_true]
    intro z hz
    rcases mem_ned.mp (mem_und.mp hz).1 with h2 | ⟨m, hm, h2⟩
    · exact List.all_eq_true.mp n1 z h2
    · obtain ⟨_, x, y, rfl, _, _, h4⟩ := isMember_sh (mok m hm)
      exact List.all_eq_true.mp (syms_facts h4).2.2.2 z h2
  · unfold undL
    refine Nat.le_trans (List.length_filter_le _ _) ?_
    rw [(sortS_perm _).length_eq]
    unfold nedL
    refine Nat.le_trans (firsts_len _) ?_
    rw [List.flatten_cons, List.length_append]
    have z := flat_len_le (L := (memsOf ms R).map fun m => namesD (it2 m)) (b := 8) fun l hl => by
      obtain ⟨m, hm, rfl⟩ := List.mem_map.mp hl
      exact (ned_len (mok m hm)).1
    rw [List.length_map, show (memsOf ms R).length = R.length from List.length_map _] at z
    omega
theorem dup_ok {mem : List PyData} {ds : List Str} (h : ds.all isNameS = true) : (dupL ds mem).all isNameS = true ∧ (dupL ds mem).length ≤ ds.length := by
  refine ⟨?_, List.length_filter_le _ _⟩
  rw [List.all_eq_true] at h ⊢
  exact fun z hz => h z (List.mem_filter.mp hz).1
/-- data that can be shown: at most b signs, at most c deep, no dict -/
structure Shn (d : PyData) (b c : Nat) : Prop where
  sh : d.shown.length ≤ b
  ok : d.showable = true
  dp : d.depth ≤ c
  nd : d.hasDict = false
theorem Shn.le {d : PyData} {b c b2 c2 : Nat} (h : Shn d b c) (hb : b ≤ b2) (hc : c ≤ c2) : Shn d b2 c2 := ⟨Nat.le_trans h.sh hb, h.ok, Nat.le_trans h.dp hc, h.nd⟩
theorem shn_str {z : Str} (h : isNameS z = true) : Shn (.str z) 82 0 := ⟨repr_name h, rfl, Nat.le_refl _, rfl⟩
theorem shn_bl {b : Bool} : Shn (.bool b) 5 0 := ⟨by cases b <;> decide, rfl, Nat.le_refl _, rfl⟩
theorem shn_non : Shn .none 4 0 := ⟨by decide, rfl, Nat.le_refl _, rfl⟩
theorem Shn.all {ds : List PyData} {b c : Nat} (h : ∀ d ∈ ds, Shn d b c) : PyData.showableAll ds = true ∧ PyData.depthAll ds ≤ c ∧ PyData.hasDictAll ds = false := by
  induction ds with
  | nil => exact ⟨rfl, Nat.zero_le _, rfl⟩
  | cons d ds ih =>
    obtain ⟨i1, i2, i3⟩ := ih fun x hx => h x (List.mem_cons_of_mem _ hx)
    have z := h d List.mem_cons_self
    refine ⟨?_, Nat.max_le.mpr ⟨z.dp, i2⟩, ?_⟩
    · show (d.showable && PyData.showableAll ds) = true
      rw [z.ok, i1]
      rfl
    · show (d.hasDict || PyData.hasDictAll ds) = false
      rw [z.nd, i3]
      rfl
theorem shn_tup {ds : List PyData} {b c : Nat} (h : ∀ d ∈ ds, Shn d b c) : Shn (.tuple ds) ((b + 2) * ds.length + 3) (c + 1) := by
  obtain ⟨i1, i2, i3⟩ := Shn.all h
  refine ⟨?_, i1, Nat.succ_le_succ i2, i3⟩
  show (tupleText (PyData.shownAll ds)).length ≤ _
  rw [shown_all]
  have z := tuple_le (b := b) (ts := ds.map PyData.shown) fun t ht => by
    obtain ⟨d, hd, rfl⟩ := List.mem_map.mp ht
    exact (h d hd).sh
  rw [List.length_map] at z
  exact z
theorem shn_strs {zs : List Str} {n : Nat} (h : zs.all isNameS = true) (hl : zs.length ≤ n) : Shn (strsD zs) (84 * n + 3) 1 := by
  have z := shn_tup (ds := zs.map PyData.str) (b := 82) (c := 0) fun d hd => by
    obtain ⟨y, hy, rfl⟩ := List.mem_map.mp hd
    exact shn_str (List.all_eq_true.mp h y hy)
  rw [List.length_map] at z
  exact z.le (by omega) (Nat.le_refl _)
theorem repr_shn {H : Hp} {v : V} {Q : VK} {d : PyData} {b c : Nat} (hv : Dr H v d) (h : Shn d b c) (hb : b ≤ 10000000) (hc : c ≤ 40) (q : Q (.str d.shown) H) : rRepr [v] H Q := by
  have ks : 10000000 ≤ sizeLine := by decide
  exact ⟨v, _, rfl, hv, h.ok, Nat.le_trans h.dp hc, fun _ => Nat.le_trans h.sh (Nat.le_trans hb ks), (fun z => by rw [h.nd] at z; cases z), q⟩
end LK
namespace LK
open PySem PySem.Spec PyProof.Rows L2
/-- archives as they stand -/
theorem archives_okU {as ms : List PyData} (h8 : as.length ≤ 8) (h1 : as.all isArchiveD = true) (h2 : ascS (as.map nm0) = true) (pm : (as.flatMap it1).Perm ms) (h4 : (ms.map nm0).Nodup) (h5 : (ms.flatMap fun m => namesD (it1 m)).Nodup) (h6 : ms.length ≤ 24) : areArchivesL as = true := by
  unfold areArchivesL
  rw [decide_eq_true h8, h1, h2, pm.length_eq, decide_eq_true h6]
  rw [diffS_of ((pm.map nm0).nodup_iff.mpr h4)]
  rw [diffS_of]
  · rfl
  · rw [← names_flat, ← List.flatMap_def]
    exact (pm.flatMap_right _).nodup_iff.mpr h5
theorem isArchive_mkU {r : Str} {ds : List PyData} (h1 : isNameS r = true) (h2 : ds.all isMemberD = true) (h3 : ascS (ds.map nm0) = true) : isArchiveD (.tuple [.str r, .tuple ds]) = true := by
  show (isNameS r && (ds.all isMemberD && ascS (ds.map nm0))) = true
  rw [h1, h2, h3]
  rfl
/-! ### archives can be compared -/
theorem lay_all : ∀ {ds : List PyData}, (∀ d ∈ ds, d.canLay0 = true) → PyData.canLayAll0 ds = true
  | [], _ => rfl
  | d :: ds, h => by
    show (d.canLay0 && PyData.canLayAll0 ds) = true
    rw [h d List.mem_cons_self, lay_all fun x hx => h x (List.mem_cons_of_mem _ hx)]
    rfl
theorem depth_all {c : Nat} : ∀ {ds : List PyData}, (∀ d ∈ ds, d.depth ≤ c) → PyData.depthAll ds ≤ c
  | [], _ => Nat.zero_le _
  | d :: ds, h => Nat.max_le.mpr ⟨h d List.mem_cons_self, depth_all fun x hx => h x (List.mem_cons_of_mem _ hx)⟩
theorem lay_member {m : PyData} (h : isMemberD m = true) : m.canLay0 = true ∧ m.depth ≤ 2 := by
  obtain ⟨z, x, y, rfl, h1, h2, h3⟩ := isMember_sh h
  have f2 := syms_facts h2
  have f3 := syms_facts h3
  constructor
  · show (PyData.strOk z && (PyData.canLayAll0 x && (PyData.canLayAll0 y && true))) = true
    rw [f2.1, f3.1, lay_strs f2.2.2.2, lay_strs f3.2.2.2, name_ok h1]
    rfl
  · show max 0 (max (PyData.depthAll x + 1) (max (PyData.depthAll y + 1) 0)) + 1 ≤ 2
    rw [f2.1, f3.1, depth_strs, depth_strs]
    decide
theorem lay_archive {d : PyData} (h : isArchiveD d = true) : d.canLay0 = true ∧ d.depth ≤ 4 := by
  obtain ⟨z, ms, rfl, h1, h2, _⟩ := isArchive_sh h
  have h2 := List.all_eq_true.mp h2
  constructor
  · show (PyData.strOk z && (PyData.canLayAll0 ms && true)) = true
    rw [name_ok h1, lay_all fun m hm => (lay_member (h2 m hm)).1]
    rfl
  · have z := depth_all (c := 2) fun m hm => (lay_member (h2 m hm)).2
    show max 0 (max (PyData.depthAll ms + 1) 0) + 1 ≤ 4
    omega
theorem shaped_arch {as : List PyData} (h : areArchivesL as = true) : SeqAt.shaped (.tuple as) = true := by
  obtain ⟨k1, _⟩ := arch_facts h
  have k1 := List.all_eq_true.mp k1
  unfold SeqAt.shaped
  rw [Bool.and_eq_true]
  refine ⟨lay_all fun d hd => (lay_archive (k1 d hd)).1, decide_eq_true ?_⟩
  have z := depth_all (c := 4) fun d hd => (lay_archive (k1 d hd)).2
  show PyData.depthAll as + 1 ≤ 64
  omega
theorem eqv_self {d : PyData} (h : SeqAt.shaped d = true) : PyData.eqv d d = true := SeqAt.eqv_refl d (SeqAt.canLay_of_shaped h)
/-- a list of lists of data -/
def LotsL (H : Hp) (d : Addr) (L : List (Addr × List PyData)) : Prop := H d = some (.lst (L.map fun p => V.ref p.1)) ∧ (∀ p ∈ L, p.1 ≠ d) ∧ (L.map (·.1)).Nodup ∧ ∀ (j : Nat) (q : Addr) (ds : List PyData), L[j]? = some (q, ds) → ∃ us, H q = some (.lst us) ∧ DrAll H us ds ∧ flatA ds = true
section
variable {H H1 : Hp} {d a : Addr} {L : List (Addr × List PyData)}
theorem LotsL.mono (h : LotsL H d L) (s : Same H H1) : LotsL H1 d L := by
  obtain ⟨h1, h2, h3, h4⟩ := h
  exact ⟨s _ _ h1, h2, h3, fun j q ds e => let ⟨us, k1, k2, k3⟩ := h4 j q ds e; ⟨us, s _ _ k1, k2.mono s, k3⟩⟩
theorem LotsL.sab {xs : List V} (h : LotsL H d L) (s : Sab a H H1) (ha : H a = some (.lst xs)) (hd : d ≠ a) (hq : ∀ p ∈ L, p.1 ≠ a) : LotsL H1 d L := by
  obtain ⟨h1, h2, h3, h4⟩ := h
  exact ⟨s _ _ hd h1, h2, h3, fun j q ds e => let ⟨us, k1, k2, k3⟩ := h4 j q ds e; ⟨us, s _ _ (hq _ (List.mem_of_getElem? e)) k1, k2.tups (sab_tups ha s) k3, k3⟩⟩
theorem LotsL.add {j : Nat} {q : Addr} {ds : List PyData} {us : List V} {t : V} {x : PyData} (h : LotsL H d L) (hj : L[j]? = some (q, ds)) (hq : H q = some (.lst us)) (hu : DrAll H us ds) (ht : Dr H t x) (hx : flatD x = true) :
    LotsL (upd H q (.lst (us ++ [t]))) d (L.set j (q, ds ++ [x])) := by
  obtain ⟨h1, h2, h3, h4⟩ := h
  have nd : d ≠ q := fun z => h2 _ (List.mem_of_getElem? hj) z.symm
  have e1 := map_set_fst (es := ds ++ [x]) hj
  have st := sab_tups (H1 := upd H q (.lst (us ++ [t]))) hq Sab.refl.upd
  have flatS : ∀ {as : List PyData}, flatA as = true → flatA (as ++ [x]) = true := by
    intro as
    induction as with
    | nil => intro _; show (flatD x && true) = true; rw [hx]; rfl
    | cons a as ih =>
      intro f
      have f2 := Bool.and_eq_true_iff.mp f
      show (flatD a && flatA (as ++ [x])) = true
      rw [f2.1, ih f2.2]
      rfl
  obtain ⟨us0, g1, g2, g3⟩ := h4 j q ds hj
  refine ⟨?_, fun p hp => ?_, by rw [e1]; exact h3, fun i p es e => ?_⟩
  · rw [upd_ne nd, h1]
    have e2 : (L.set j (q, ds ++ [x])).map (fun p => V.ref p.1) = L.map (fun p => V.ref p.1) := by
      have z : ∀ M : List (Addr × List PyData), M.map (fun p => V.ref p.1) = (M.map (·.1)).map V.ref := fun M => by rw [List.map_map]; rfl
      rw [z, z, e1]
    rw [e2]
  · have z : p.1 ∈ (L.set j (q, ds ++ [x])).map (·.1) := List.mem_map.mpr ⟨p, hp, rfl⟩
    rw [e1] at z
    obtain ⟨p2, hp2, e2⟩ := List.mem_map.mp z
    rw [← e2]
    exact h2 p2 hp2
  · rcases set_get e with ⟨_, e2⟩ | ⟨ne, e2⟩
    · cases e2
      exact ⟨us ++ [t], upd_same, (hu.snoc ht).tups st (flatS g3), flatS g3⟩
    · obtain ⟨vs, k1, k2, k3⟩ := h4 i p es e2
      have npq : p ≠ q := fun z => by
        have a1 : (L.map (·.1))[i]? = some q := by rw [List.getElem?_map, e2, z]; rfl
        have a2 : (L.map (·.1))[j]? = some q := by rw [List.getElem?_map, hj]; rfl
        exact ne (nodup_inj h3 a2 a1)
      exact ⟨vs, by rw [upd_ne npq]; exact k1, k2.tups st k3, k3⟩
end
end LK
namespace LK
open PySem PySem.Spec PyProof.Rows L2
/-! ### one step of a goal at a time -/
theorem go_name {i : Nat} {v : V} {σ : L2.St} {H : Hp} {Q : L2.St → Hp → Prop} (h : Q (σ.set i (some v)) H) : gName i v σ H Q := h
theorem go_seq {t u : TS} {D : Ends} {σ : L2.St} {H : Hp} (h : t { D with nx := u D } σ H) : tSeq t u D σ H := h
theorem go_asg {te : TE} {i : Nat} {D : Ends} {σ : L2.St} {H : Hp} (h : te σ H fun x H1 => D.nx (σ.set i (some x)) H1) : tAsg te (gName i) D σ H := h
theorem go_asgT {te : TE} {g : TG} {D : Ends} {σ : L2.St} {H : Hp} (h : te σ H fun x H1 => g x σ H1 D.nx) : tAsg te g D σ H := h
theorem go_drop {te : TE} {D : Ends} {σ : L2.St} {H : Hp} (h : te σ H fun _ H1 => D.nx σ H1) : tDrop te D σ H := h
theorem go_one {te : TE} {σ : L2.St} {H : Hp} {Q : List V → Hp → Prop} (h : te σ H fun v H1 => Q [v] H1) : tCons te tNil σ H Q := h
theorem go_mid {t : TS} {D : Ends} {σ : L2.St} {H : Hp} (h : t D σ H) : tMid t D σ H := ⟨D.nx, h, fun _ _ z => z⟩
theorem go_next {D : Ends} {σ : L2.St} {H : Hp} (h : D.nx σ H) : tNext D σ H := h
/-! ### several lists at different places, each with what it holds -/
def Ls (G : Hp) (L : List (Addr × List V)) : Prop := (L.map (·.1)).Nodup ∧ ∀ p ∈ L, G p.1 = some (.lst p.2)
section
variable {G G2 : Hp} {L : List (Addr × List V)} {a : Addr} {xs ys : List V}
theorem Ls.one (h : G a = some (.lst xs)) : Ls G [(a, xs)] := ⟨by simp, fun p hp => by rw [List.mem_singleton.mp hp]; exact h⟩
theorem Ls.mono (h : Ls G L) (s : Same G G2) : Ls G2 L := ⟨h.1, fun p hp => s _ _ (h.2 p hp)⟩
theorem Ls.add (h : Ls G L) (n : G a = none) : Ls (upd G a (.lst xs)) ((a, xs) :: L) := by
  refine ⟨List.nodup_cons.mpr ⟨fun z => ?_, h.1⟩, fun p hp => ?_⟩
  · obtain ⟨p, hp, e⟩ := List.mem_map.mp z
    have k := h.2 p hp
    rw [e, n] at k
    cases k
  · rcases List.mem_cons.mp hp with e | e
    · rw [e]
      exact upd_same
    · rw [upd_ne (ne_of_none (h.2 p e) n)]
      exact h.2 p e
theorem Ls.put {L1 L2 : List (Addr × List V)} (h : Ls G (L1 ++ (a, xs) :: L2)) (ys : List V) : Ls (upd G a (.lst ys)) (L1 ++ (a, ys) :: L2) := by
  have e : (L1 ++ (a, ys) :: L2).map (·.1) = (L1 ++ (a, xs) :: L2).map (·.1) := by simp
  have nd := h.1
  rw [List.map_append, List.map_cons] at nd
  obtain ⟨_, n2, n3⟩ := List.nodup_append.mp nd
  refine ⟨by rw [e]; exact h.1, fun p hp => ?_⟩
  have ne : ∀ p, p ∈ L1 ∨ p ∈ L2 → p.1 ≠ a := fun p hp z => by
    rcases hp with k | k
    · exact n3 p.1 (List.mem_map_of_mem k) a (List.mem_cons_self ..) z
    · exact (List.nodup_cons.mp n2).1 (List.mem_map.mpr ⟨p, k, z⟩)
  rcases List.mem_append.mp hp with k | k
  · rw [upd_ne (ne p (.inl k))]
    exact h.2 p (List.mem_append.mpr (.inl k))
  · rcases List.mem_cons.mp k with k | k
    · rw [k]
      exact upd_same
    · rw [upd_ne (ne p (.inr k))]
      exact h.2 p (List.mem_append.mpr (.inr (List.mem_cons_of_mem _ k)))
variable {p1 p2 p3 p4 p5 p6 : Addr × List V}
theorem Ls.put0 (h : Ls G ((a, xs) :: L)) (ys : List V) : Ls (upd G a (.lst ys)) ((a, ys) :: L) := h.put (L1 := []) ys
theorem Ls.put1 (h : Ls G (p1 :: (a, xs) :: L)) (ys : List V) : Ls (upd G a (.lst ys)) (p1 :: (a, ys) :: L) := h.put (L1 := [p1]) ys
theorem Ls.put2 (h : Ls G (p1 :: p2 :: (a, xs) :: L)) (ys : List V) : Ls (upd G a (.lst ys)) (p1 :: p2 :: (a, ys) :: L) := h.put (L1 := [p1, p2]) ys
theorem Ls.put3 (h : Ls G (p1 :: p2 :: p3 :: (a, xs) :: L)) (ys : List V) : Ls (upd G a (.lst ys)) (p1 :: p2 :: p3 :: (a, ys) :: L) := h.put (L1 := [p1, p2, p3]) ys
theorem Ls.put4 (h : Ls G (p1 :: p2 :: p3 :: p4 :: (a, xs) :: L)) (ys : List V) : Ls (upd G a (.lst ys)) (p1 :: p2 :: p3 :: p4 :: (a, ys) :: L) := h.put (L1 := [p1, p2, p3, p4]) ys
theorem Ls.put5 (h : Ls G (p1 :: p2 :: p3 :: p4 :: p5 :: (a, xs) :: L)) (ys : List V) : Ls (upd G a (.lst ys)) (p1 :: p2 :: p3 :: p4 :: p5 :: (a, ys) :: L) := h.put (L1 := [p1, p2, p3, p4, p5]) ys
theorem Ls.put6 (h : Ls G (p1 :: p2 :: p3 :: p4 :: p5 :: p6 :: (a, xs) :: L)) (ys : List V) : Ls (upd G a (.lst ys)) (p1 :: p2 :: p3 :: p4 :: p5 :: p6 :: (a, ys) :: L) := h.put (L1 := [p1, p2, p3, p4, p5, p6]) ys
theorem Ls.drop (h : Ls G (p1 :: L)) : Ls G L := ⟨(List.nodup_cons.mp h.1).2, fun p hp => h.2 p (List.mem_cons_of_mem _ hp)⟩
theorem Ls.g0 (h : Ls G ((a, xs) :: L)) : G a = some (.lst xs) := h.2 (a, xs) (List.mem_cons_self ..)
theorem Ls.g1 (h : Ls G (p1 :: (a, xs) :: L)) : G a = some (.lst xs) := h.drop.g0
theorem Ls.g2 (h : Ls G (p1 :: p2 :: (a, xs) :: L)) : G a = some (.lst xs) := h.drop.g1
theorem Ls.g3 (h : Ls G (p1 :: p2 :: p3 :: (a, xs) :: L)) : G a = some (.lst xs) := h.drop.g2
theorem Ls.g4 (h : Ls G (p1 :: p2 :: p3 :: p4 :: (a, xs) :: L)) : G a = some (.lst xs) := h.drop.g3
theorem Ls.g5 (h : Ls G (p1 :: p2 :: p3 :: p4 :: p5 :: (a, xs) :: L)) : G a = some (.lst xs) := h.drop.g4
theorem Ls.g6 (h : Ls G (p1 :: p2 :: p3 :: p4 :: p5 :: p6 :: (a, xs) :: L)) : G a = some (.lst xs) := h.drop.g5
theorem Ls.new (h : Ls G L) (s : Same G G2) (n : G a = none) (e : G2 a = some (.lst xs)) : Ls G2 ((a, xs) :: L) := by
  refine ⟨List.nodup_cons.mpr ⟨fun z => ?_, h.1⟩, fun p hp => ?_⟩
  · obtain ⟨p, hp, e⟩ := List.mem_map.mp z
    have k := h.2 p hp
    rw [e, n] at k
    cases k
  · rcases List.mem_cons.mp hp with k | k
    · rw [k]
      exact e
    · exact s _ _ (h.2 p k)
theorem sab_none {H : Hp} {q : Addr} {o : HO} (s : Sab a H G) (n : G q = none) (e : G a = some o) : H q = none := by
  cases k : H q with
  | none => rfl
  | some u =>
    rw [s q u (ne_of_none e n).symm k] at n
    cases n
/-- what lies at the last place may change, the others stay -/
theorem Ls.out {L1 : List (Addr × List V)} (h : Ls G (L1 ++ [(a, xs)])) (s : Sab a G G2) (e : G2 a = some (.lst ys)) : Ls G2 (L1 ++ [(a, ys)]) := by
  have k := h.put ys
  refine ⟨k.1, fun p hp => ?_⟩
  by_cases z : p.1 = a
  · have q := k.2 p hp
    rw [z, upd_same] at q
    rw [z, e]
    exact q
  · have q := k.2 p hp
    rw [upd_ne z] at q
    exact s _ _ z q
/-- all that is no list stays -/
def Kp (G G2 : Hp) : Prop := ∀ b o, G b = some o → (∀ xs, o ≠ .lst xs) → G2 b = some o
theorem Kp.refl : Kp G G := fun _ _ h _ => h
theorem Kp.tr {G3 : Hp} (h : Kp G G2) (k : Kp G2 G3) : Kp G G3 := fun b o e n => k b o (h b o e n) n
theorem Kp.of (h : Same G G2) : Kp G G2 := fun b o e _ => h b o e
theorem Kp.sab (h : Sab a G G2) (e : G a = some (.lst xs)) : Kp G G2 := fun b o k n => h b o (fun z => by
  rw [z, e] at k
  exact n xs (Option.some.inj k).symm) k
theorem Kp.put (e : G a = some (.lst xs)) : Kp G (upd G a (.lst ys)) := Kp.sab Sab.refl.upd e
theorem Kp.tup {b : Addr} {zs : List V} (h : Kp G G2) (e : G b = some (.tup zs)) : G2 b = some (.tup zs) := h _ _ e (by intro xs z; cases z)
theorem Kp.dk {b : Addr} {zs : List (Key × V)} (h : Kp G G2) (e : G b = some (.dK zs)) : G2 b = some (.dK zs) := h _ _ e (by intro xs z; cases z)
theorem Kp.dr {v : V} {d : PyData} (h : Kp G G2) (f : flatD d = true) (e : Dr G v d) : Dr G2 v d := e.tups (fun b xs k => h.tup k) f
theorem Kp.drs {vs : List V} {ds : List PyData} (h : Kp G G2) (f : flatA ds = true) (e : DrAll G vs ds) : DrAll G2 vs ds := e.tups (fun b xs k => h.tup k) f
end
def WellV (wv : List V) (N : Nat) : Prop := ∃ o b n : Int, wv = [.int o, .int b, .int n] ∧ 0 ≤ o ∧ 0 ≤ b ∧ b < 2 ^ 62 ∧ 0 ≤ n ∧ n ≤ N
theorem WellAt.v {H : Hp} {a : Addr} {N : Nat} (h : WellAt H a N) : ∃ wv, H a = Option.some (.lst wv) ∧ WellV wv N := by
  obtain ⟨o, b, n, e, k⟩ := h
  exact ⟨_, e, o, b, n, rfl, k⟩
theorem WellV.at {H : Hp} {a : Addr} {N : Nat} {wv : List V} (h : WellV wv N) (e : H a = some (.lst wv)) : WellAt H a N := by
  obtain ⟨o, b, n, rfl, k⟩ := h
  exact ⟨o, b, n, e, k⟩
theorem WellV.le {N M : Nat} {wv : List V} (h : WellV wv N) (l : N ≤ M) : WellV wv M := by
  obtain ⟨o, b, n, rfl, k1, k2, k3, k4, k5⟩ := h
  exact ⟨o, b, n, rfl, k1, k2, k3, k4, by omega⟩
end LK
/-! texts cut at a sign and put together again; their lengths; the signs at their ends -/
namespace LK
open PySem PySem.Spec PyProof.Rows L2
theorem pre_one {s c : Nat} {r : List Nat} : TL.pre [s] (c :: r) = true ↔ c = s := by
  unfold TL.pre
  show (([c] : List Nat) == [s]) = true ↔ c = s
  rw [beq_iff_eq]
  constructor
  · intro h
    cases h
    rfl
  · intro h
    rw [h]
theorem spl_ne (s : Nat) : ∀ (l acc : List Nat), TL.spl [s] 0 acc l ≠ []
  | [], acc => by
    rw [TL.spl_nil]
    simp
  | c :: r, acc => by
    cases h : TL.pre [s] (c :: r) with
    | true =>
      rw [TL.spl_hit h]
      simp
    | false =>
      rw [TL.spl_miss h]
      exact spl_ne s r _
theorem spl_back (s : Nat) : ∀ (l acc : List Nat), TL.joinL [s] (TL.spl [s] 0 acc l) = acc ++ l
  | [], acc => by
    rw [TL.spl_nil, List.append_nil]
    rfl
  | c :: r, acc => by
    cases h : TL.pre [s] (c :: r) with
    | true =>
      rw [TL.spl_hit h]
      have e := pre_one.mp h
      subst e
      have ih := spl_back c r []
      show TL.joinL [c] (acc :: TL.spl [c] 0 [] r) = _
      cases hq : TL.spl [c] 0 [] r with
      | nil => exact absurd hq (spl_ne c r [])
      | cons p ps =>
        rw [hq] at ih
        show acc ++ ([c] ++ TL.joinL [c] (p :: ps)) = _
        rw [ih, List.nil_append]
        rfl
    | false =>
      rw [TL.spl_miss h, spl_back s r, List.append_assoc]
      rfl
theorem spl_free (s : Nat) : ∀ (l acc : List Nat), s ∉ acc → ∀ p ∈ TL.spl [s] 0 acc l, s ∉ p
  | [], acc, ha => by
    rw [TL.spl_nil]
    intro p hp
    rw [List.mem_singleton.mp hp]
    exact ha
  | c :: r, acc, ha => by
    cases h : TL.pre [s] (c :: r) with
    | true =>
      rw [TL.spl_hit h]
      intro p hp
      rcases List.mem_cons.mp hp with rfl | hp
      · exact ha
      · exact spl_free s r [] (by simp) p hp
    | false =>
      rw [TL.spl_miss h]
      refine spl_free s r _ fun hm => ?_
      rcases List.mem_append.mp hm with hm | hm
      · exact ha hm
      · rw [List.mem_singleton.mp hm, pre_one.mpr rfl] at h
        cases h
/-- a separator of one plain sign -/
structure Sep (y : Str) (s : Nat) : Prop where
  e : TL.tl y = [s]
  k : y.cps.all (· < 256) = true
theorem sep_nl : Sep "\n" 10 := ⟨by decide +kernel, by decide +kernel⟩
theorem sep_sp : Sep " " 32 := ⟨by decide +kernel, by decide +kernel⟩
section
variable {x y : Str} {s : Nat}
theorem split_tl (h : Sep y s) : (Txt.split x y).map TL.tl = TL.spl [s] 0 [] (TL.tl x) := by
  have z := TL.split_spl x y (by rw [h.e]; simp) (TL.kind_ok h.k)
  rw [h.e] at z
  exact z
theorem join_split (h : Sep y s) : Txt.join y (Txt.split x y) = x := TL.ext_tl (by rw [TL.join_eq, TL.tl_join, h.e, split_tl h, spl_back]; rfl)
theorem split_ne (h : Sep y s) : Txt.split x y ≠ [] := fun z => by
  have e := split_tl (x := x) h
  rw [z] at e
  exact spl_ne s _ _ e.symm
theorem split_free (h : Sep y s) : ∀ p ∈ Txt.split x y, s ∉ TL.tl p := fun p hp => by
  have e := split_tl (x := x) h
  exact spl_free s _ [] (by simp) (TL.tl p) (by rw [← e]; exact List.mem_map.mpr ⟨p, hp, rfl⟩)
theorem split_mk (h : Sep y s) {ps : List Str} (ne : ps ≠ []) (hp : ∀ p ∈ ps, s ∉ TL.tl p) : Txt.split (Txt.join y ps) y = ps := TL.split_join (S := []) h.e h.k ne hp
/-- the signs of texts with one more each -/
def jl (ps : List Str) : Nat := (ps.map fun p => p.length + 1).sum
theorem jl_cons (p : Str) (ps : List Str) : jl (p :: ps) = p.length + 1 + jl ps := rfl
theorem jl_append (ps qs : List Str) : jl (ps ++ qs) = jl ps + jl qs := by
  unfold jl
  rw [List.map_append, List.sum_append]
theorem jl_len (ps : List Str) : ps.length ≤ jl ps := by
  induction ps with
  | nil => exact Nat.zero_le _
  | cons p ps ih =>
    rw [jl_cons, List.length_cons]
    omega
theorem jl_mem {p : Str} {ps : List Str} (h : p ∈ ps) : p.length + 1 ≤ jl ps := by
  induction ps with
  | nil => cases h
  | cons q ps ih =>
    rw [jl_cons]
    rcases List.mem_cons.mp h with rfl | h
    · omega
    · have := ih h
      omega
theorem jl_cut (ps : List Str) (n : Nat) : jl (ps.take n) + jl (ps.drop n) = jl ps := by
  rw [← jl_append, List.take_append_drop]
theorem jl_drop_le (ps : List Str) {m n : Nat} (h : m ≤ n) : jl (ps.drop n) ≤ jl (ps.drop m) := by
  have e : ps.drop n = (ps.drop m).drop (n - m) := by
    rw [List.drop_drop]
    congr 1
    omega
  have := jl_cut (ps.drop m) (n - m)
  rw [e]
  omega
theorem jl_rev (ps : List Str) : jl ps.reverse = jl ps := by
  unfold jl
  rw [List.map_reverse, List.sum_reverse]
theorem jl_set {ps : List Str} {i : Nat} (h : i < ps.length) (q : Str) : jl (ps.set i q) + ps[i].length = jl ps + q.length := by
  induction ps generalizing i with
  | nil => cases h
  | cons p ps ih =>
    cases i with
    | zero =>
      show q.length + 1 + jl ps + p.length = p.length + 1 + jl ps + q.length
      omega
    | succ i =>
      have z := ih (i := i) (by
        rw [List.length_cons] at h
        omega)
      show p.length + 1 + jl (ps.set i q) + (ps[i]'(Nat.lt_of_succ_lt_succ h)).length = p.length + 1 + jl ps + q.length
      omega
theorem str_len_append (a b : Str) : (a ++ b).length = a.length + b.length := by
  rw [TL.len_tl, TL.len_tl, TL.len_tl, TL.tl_append, List.length_append]
theorem join_len (hy : y.length = 1) : ∀ {ps : List Str}, ps ≠ [] → (Txt.join y ps).length + 1 = jl ps
  | [], h => absurd rfl h
  | [p], _ => by
    rw [TL.join_eq]
    rfl
  | p :: q :: r, _ => by
    have ih := join_len hy (ps := q :: r) (by simp)
    rw [TL.join_eq] at ih ⊢
    show (p ++ y ++ Str.join y (q :: r)).length + 1 = _
    rw [str_len_append, str_len_append, jl_cons]
    omega
theorem Sep.len (h : Sep y s) : y.length = 1 := by
  rw [TL.len_tl, h.e]
  rfl
theorem joinT_le (h : Sep y s) (ps : List Str) : (Txt.join y ps).length ≤ jl ps := by
  by_cases e : ps = []
  · rw [e, TL.join_eq]
    exact Nat.le_refl _
  · have := join_len h.len e
    omega
theorem split_jl (h : Sep y s) : jl (Txt.split x y) = x.length + 1 := by
  have z := join_len h.len (split_ne (x := x) h)
  rw [join_split h] at z
  exact z.symm
theorem split_few (h : Sep y s) : (Txt.split x y).length ≤ x.length + 1 := by
  have := jl_len (Txt.split x y)
  rw [split_jl h] at this
  exact this
theorem split_short (h : Sep y s) {p : Str} (hp : p ∈ Txt.split x y) : p.length ≤ x.length := by
  have := jl_mem hp
  rw [split_jl h] at this
  omega
theorem join_room (h : Sep y s) {ps : List Str} : (ps.map (·.length)).sum + ps.length * y.length = jl ps := by
  rw [h.len, Nat.mul_one]
  induction ps with
  | nil => rfl
  | cons p ps ih =>
    rw [List.map_cons, List.sum_cons, List.length_cons, jl_cons, ← ih]
    omega
end
/-! ### the signs at the ends of a text -/
def opL (l : List Nat) : Bool := decide (l.head? = some 40)
def clL (l : List Nat) : Bool := decide (l.getLast? = some 41)
def midL (l : List Nat) : List Nat := if clL l then (if opL l then l.drop 1 else l).dropLast else if opL l then l.drop 1 else l
theorem sub_at (x y : Str) (i : Nat) : Builtin.Str.subAt x y i = (((TL.tl x).drop i).take (TL.tl y).length == TL.tl y) := by
  rw [PySem.StrLaws.subAt_eq]
  show ((List.drop i (TL.tl x)).take y.length == TL.tl y) = _
  rw [TL.len_tl]
theorem starts_op (x : Str) : Txt.startswith x "(" = opL (TL.tl x) := by
  unfold Txt.startswith opL
  rw [sub_at, TL.len_tl x, show TL.tl ("(" : Str) = [40] from by decide +kernel, show ("(" : Str).length = 1 from by decide +kernel]
  cases TL.tl x with
  | nil => rfl
  | cons c r =>
    show (decide (0 + 1 ≤ r.length + 1) && (([c] : List Nat) == [40])) = decide (some c = some 40)
    rw [decide_eq_true (by omega), Bool.true_and, Bool.eq_iff_iff, beq_iff_eq, decide_eq_true_iff]
    constructor
    · intro h; cases h; rfl
    · intro h; cases h; rfl
theorem last_take (l : List Nat) (h : 1 ≤ l.length) : ∃ c, l.getLast? = some c ∧ (l.drop (l.length - 1)).take 1 = [c] := by
  obtain ⟨a, r, rfl⟩ : ∃ a r, l = a ++ [r] := by
    have ne : l ≠ [] := fun e => by rw [e] at h; cases h
    exact ⟨l.dropLast, l.getLast ne, (List.dropLast_concat_getLast ne).symm⟩
  refine ⟨r, by simp, ?_⟩
  rw [List.length_append, List.length_singleton, Nat.add_sub_cancel, List.drop_left]
  rfl
theorem ends_cl (x : Str) : Txt.endswith x ")" = clL (TL.tl x) := by
  unfold Txt.endswith clL
  rw [sub_at, TL.len_tl x, show TL.tl (")" : Str) = [41] from by decide +kernel, show (")" : Str).length = 1 from by decide +kernel]
  by_cases h : 1 ≤ (TL.tl x).length
  · obtain ⟨c, h1, h2⟩ := last_take _ h
    rw [h1]
    show (decide (0 + 1 ≤ (TL.tl x).length) && (List.take 1 (List.drop ((TL.tl x).length - 1) (TL.tl x)) == [41])) = _
    rw [h2, decide_eq_true (by omega), Bool.true_and, Bool.eq_iff_iff, beq_iff_eq, decide_eq_true_iff]
    constructor
    · intro h; cases h; rfl
    · intro h; cases h; rfl
  · have e : TL.tl x = [] := List.length_eq_zero_iff.mp (by omega)
    rw [e]
    rfl
theorem affix_tl (x : Str) (i j : Nat) (hj : j ≤ x.length) : TL.tl (Txt.affix x (some (i, j))) = ((TL.tl x).drop i).take (j - i) := by
  show TL.tl (if (j - i == x.length) = true then x else Builtin.Str.strSub x i j) = _
  by_cases h : j - i = x.length
  · rw [if_pos (by rw [h]; exact beq_self_eq_true _), h, TL.len_tl]
    by_cases hi : i = 0
    · rw [hi, List.drop_zero, List.take_length]
    · have : x.length = 0 := by omega
      have e : TL.tl x = [] := List.length_eq_zero_iff.mp (by rw [← TL.len_tl]; exact this)
      rw [e]
      simp
  · rw [if_neg (by simp [h])]
    exact TL.tl_strSub x i j
theorem rem_pre (x : Str) : TL.tl (Txt.removeprefix x "(") = if opL (TL.tl x) then (TL.tl x).drop 1 else TL.tl x := by
  unfold Txt.removeprefix opL
  rw [sub_at, show TL.tl ("(" : Str) = [40] from by decide +kernel, show ("(" : Str).length = 1 from by decide +kernel]
  cases h : TL.tl x with
  | nil =>
    show TL.tl (Txt.affix x none) = []
    exact h
  | cons c r =>
    by_cases hc : c = 40
    · subst hc
      show TL.tl (Txt.affix x (some (1, x.length))) = r
      rw [affix_tl _ _ _ (Nat.le_refl _), TL.len_tl x, h]
      show List.take (r.length + 1 - 1) r = r
      rw [Nat.add_sub_cancel, List.take_length]
    · have e1 : ((List.take [40].length (List.drop 0 (c :: r))) == [40]) = false := by
        show (([c] : List Nat) == [40]) = false
        rw [Bool.eq_false_iff]
        intro z
        rw [beq_iff_eq] at z
        cases z
        exact hc rfl
      rw [e1]
      show TL.tl (Txt.affix x none) = if decide (some c = some 40) = true then _ else _
      rw [if_neg (by simp [hc])]
      exact h
theorem rem_suf (x : Str) : TL.tl (Txt.removesuffix x ")") = if clL (TL.tl x) then (TL.tl x).dropLast else TL.tl x := by
  unfold Txt.removesuffix clL
  rw [sub_at, TL.len_tl x, show TL.tl (")" : Str) = [41] from by decide +kernel, show (")" : Str).length = 1 from by decide +kernel]
  by_cases h : 1 ≤ (TL.tl x).length
  · obtain ⟨c, h1, h2⟩ := last_take _ h
    rw [h1]
    show TL.tl (Txt.affix x (if (decide (1 ≤ (TL.tl x).length) && (List.take 1 (List.drop ((TL.tl x).length - 1) (TL.tl x)) == [41])) = true then _ else _)) = _
    rw [h2, decide_eq_true h, Bool.true_and]
    by_cases hc : c = 41
    · subst hc
      show TL.tl (Txt.affix x (some (0, (TL.tl x).length - 1))) = (TL.tl x).dropLast
      rw [affix_tl _ _ _ (by rw [TL.len_tl x]; omega), List.drop_zero, Nat.sub_zero, List.dropLast_eq_take]
    · have e1 : (([c] : List Nat) == [41]) = false := by
        rw [Bool.eq_false_iff]
        intro z
        rw [beq_iff_eq] at z
        cases z
        exact hc rfl
      rw [e1]
      show TL.tl (Txt.affix x none) = if decide (some c = some 41) = true then _ else _
      rw [if_neg (by simp [hc])]
      rfl
  · have e : TL.tl x = [] := List.length_eq_zero_iff.mp (by omega)
    rw [e]
    show TL.tl (Txt.affix x none) = []
    exact e
/-- a text without the signs of a group -/
theorem mid_prog (x : Str) : TL.tl (Txt.removesuffix (Txt.removeprefix x "(") ")") = midL (TL.tl x) := by
  rw [rem_suf, rem_pre]
  unfold midL
  cases ho : opL (TL.tl x) with
  | false => rfl
  | true =>
    cases h : TL.tl x with
    | nil => rfl
    | cons c r =>
      rw [h] at ho
      have hc : c = 40 := by
        have z := of_decide_eq_true ho
        cases z
        rfl
      subst hc
      cases r with
      | nil => rfl
      | cons d r =>
        have e : clL (40 :: d :: r) = clL (d :: r) := by
          unfold clL
          rw [List.getLast?_cons_cons]
        show (if clL (d :: r) = true then (d :: r).dropLast else d :: r) = if clL (40 :: d :: r) = true then (d :: r).dropLast else d :: r
        rw [e]
theorem cut_tl (z : Str) (lo hi : Option Int) : TL.tl (cutS z lo hi) = ((TL.tl z).drop (HT.sIx z.length 0 lo)).take (HT.sIx z.length z.length hi - HT.sIx z.length 0 lo) := rfl
theorem cut_nat (z : Str) (a b : Nat) : TL.tl (cutS z (some (a : Nat)) (some (b : Nat))) = ((TL.tl z).drop a).take (min b z.length - min a z.length) := by
  rw [cut_tl]
  have e1 : HT.sIx z.length 0 (some ((a : Nat) : Int)) = min a z.length := by
    unfold HT.sIx
    simp
    omega
  have e2 : HT.sIx z.length z.length (some ((b : Nat) : Int)) = min b z.length := by
    unfold HT.sIx
    simp
    omega
  rw [e1, e2]
  by_cases h : a ≤ z.length
  · rw [Nat.min_eq_left h]
  · have h2 : (TL.tl z).length ≤ a := by rw [← TL.len_tl]; omega
    have h3 : (TL.tl z).length ≤ min a z.length := by rw [← TL.len_tl]; omega
    rw [List.drop_eq_nil_of_le h2, List.drop_eq_nil_of_le h3]
theorem mid_law (z : Str) : TL.tl (cutS z (some (if opL (TL.tl z) then 1 else 0)) (some ((z.length : Int) - (if clL (TL.tl z) then 1 else 0)))) = midL (TL.tl z) := by
  have hl := TL.len_tl z
  have hcl : clL (TL.tl z) = true → 1 ≤ z.length := fun h => by
    rw [hl]
    cases h2 : TL.tl z with
    | nil =>
      rw [h2] at h
      cases h
    | cons c r => simp
  have hop : opL (TL.tl z) = true → 1 ≤ z.length := fun h => by
    rw [hl]
    cases h2 : TL.tl z with
    | nil =>
      rw [h2] at h
      cases h
    | cons c r => simp
  unfold midL
  cases ho : opL (TL.tl z) <;> cases hc : clL (TL.tl z)
  · have e : ((z.length : Int) - (if false = true then 1 else 0)) = ((z.length : Nat) : Int) := by simp
    rw [e]
    have k := cut_nat z 0 z.length
    show TL.tl (cutS z (some ((0 : Nat) : Int)) _) = _
    rw [k, List.drop_zero, Nat.min_self, Nat.zero_min, Nat.sub_zero, hl, List.take_length]
    rfl
  · have h1 := hcl hc
    have e : ((z.length : Int) - (if true = true then 1 else 0)) = ((z.length - 1 : Nat) : Int) := by
      simp only [if_true]
      omega
    rw [e]
    have k := cut_nat z 0 (z.length - 1)
    show TL.tl (cutS z (some ((0 : Nat) : Int)) _) = _
    rw [k, List.drop_zero, Nat.zero_min, Nat.sub_zero, Nat.min_eq_left (by omega), List.dropLast_eq_take, hl]
    rfl
  · have h1 := hop ho
    have e : ((z.length : Int) - (if false = true then 1 else 0)) = ((z.length : Nat) : Int) := by simp
    rw [e]
    have k := cut_nat z 1 z.length
    show TL.tl (cutS z (some ((1 : Nat) : Int)) _) = _
    rw [k, Nat.min_self, Nat.min_eq_left h1]
    show List.take (z.length - 1) (List.drop 1 (TL.tl z)) = List.drop 1 (TL.tl z)
    rw [List.take_of_length_le (by rw [List.length_drop, hl]; exact Nat.le_refl _)]
  · have h1 := hcl hc
    have e : ((z.length : Int) - (if true = true then 1 else 0)) = ((z.length - 1 : Nat) : Int) := by
      simp only [if_true]
      omega
    rw [e]
    have k := cut_nat z 1 (z.length - 1)
    show TL.tl (cutS z (some ((1 : Nat) : Int)) _) = _
    rw [k, Nat.min_eq_left h1, Nat.min_eq_left (by omega : z.length - 1 ≤ z.length), List.dropLast_eq_take]
    show List.take (z.length - 1 - 1) (List.drop 1 (TL.tl z)) = List.take ((List.drop 1 (TL.tl z)).length - 1) (List.drop 1 (TL.tl z))
    rw [List.length_drop, hl]
theorem first_op (z : Str) : (TL.tl (cutS z none (some 1)) = [40]) ↔ opL (TL.tl z) = true := by
  have k : TL.tl (cutS z none (some 1)) = (TL.tl z).take 1 := by
    rw [cut_tl]
    show List.take (HT.sIx z.length z.length (some ((1 : Nat) : Int)) - 0) (List.drop 0 (TL.tl z)) = _
    have e2 : HT.sIx z.length z.length (some ((1 : Nat) : Int)) = min 1 z.length := by
      unfold HT.sIx
      simp
    rw [e2, List.drop_zero, Nat.sub_zero, TL.len_tl]
    cases TL.tl z with
    | nil => rfl
    | cons c r =>
      rw [Nat.min_eq_left (by simp)]
  rw [k]
  unfold opL
  cases TL.tl z with
  | nil => simp
  | cons c r => simp
theorem last_cl (z : Str) : (TL.tl (cutS z (some (-1)) none) = [41]) ↔ clL (TL.tl z) = true := by
  have hl := TL.len_tl z
  have k : TL.tl (cutS z (some (-1)) none) = (TL.tl z).drop (z.length - 1) := by
    rw [cut_tl]
    have e1 : HT.sIx z.length 0 (some (-1)) = z.length - 1 := by
      unfold HT.sIx
      simp
      omega
    rw [e1]
    show List.take (z.length - (z.length - 1)) _ = _
    rw [List.take_of_length_le (by rw [List.length_drop, hl]; exact Nat.le_refl _)]
  rw [k]
  unfold clL
  by_cases h : 1 ≤ (TL.tl z).length
  · obtain ⟨c, h1, h2⟩ := last_take _ h
    have e : List.drop (z.length - 1) (TL.tl z) = [c] := by
      rw [← h2, hl, List.take_of_length_le (by rw [List.length_drop]; omega)]
    rw [e, h1]
    simp
  · have e : TL.tl z = [] := List.length_eq_zero_iff.mp (by omega)
    rw [e]
    simp
section
variable {X : Cx}
/-- a text taken once, or not at all -/
def rMulB : R2 := fun x y H Q => ∃ (z : Str) (b : Bool), x = .str z ∧ y = .int (if b then 1 else 0) ∧ z.length ≤ 1000000 ∧ Q (.str (if b then z else Str.empty)) H
theorem op_mulB : OpR X (binaryOp .Mult) rMulB := by
  intro pins s σ H x y v u Q I rx ry h
  obtain ⟨z, b, rfl, rfl, hz, q⟩ := h
  obtain ⟨t, rfl⟩ := rx
  obtain ⟨t', rfl⟩ := ry
  cases b with
  | true =>
    refine SB.mul (n := 1) ⟨by decide, fun _ h => ?_, fun _ h => ?_⟩ fun t2 k => ⟨.str _, H, I.tok k, ⟨t2, rfl⟩, ?_⟩
    · cases h
    · cases h
    · exact q
  | false =>
    refine SB.mul (n := 0) ⟨by decide, fun h => absurd (by decide) h, fun h => absurd (by decide) h⟩ fun t2 k => ⟨.str _, H, I.tok k, ⟨t2, rfl⟩, ?_⟩
    exact q
end
end LK
namespace LK
open PySem PySem.Spec PyProof.Rows L2

/-! ### what the rows of a program's text tell -/
def dfnS : Str := "defines"
def ndsS : Str := "needs"
def dashS : Str := "-"
/-- a row: its word and its names -/
def rowP (r : Str) : Option (Str × List Str) := match Txt.split r " " with
  | w :: ns => if w = dfnS ∨ w = ndsS then (if ns = [dashS] then some (w, []) else if 0 < ns.length ∧ ns.all isNameS = true then some (w, ns) else none) else none
  | [] => none
def rwD : Option (Str × List Str) → PyData
  | some (w, ns) => .tuple [.str w, strsD ns]
  | none => .none
def okLot (ns : List Str) : Bool := ascS ns && decide (ns.length ≤ 200)
/-- the two lists of names, if the rows are those of a program -/
def progL : List (Option (Str × List Str)) → Option (List Str × List Str)
  | [some (w1, a), some (w2, b)] => if w1 = dfnS ∧ w2 = ndsS ∧ okLot a = true ∧ okLot b = true then some (a, b) else none
  | _ => none
def parsedP (z : Str) : Except Nat (List Str × List Str) :=
  if (Txt.split z "\n").all (fun r => (rowP r).isSome) then
    match progL ((Txt.split z "\n").map rowP) with
    | some p => .ok p
    | none => .error (Txt.split z "\n").length
  else .error ((Txt.split z "\n").findIdx fun r => !(rowP r).isSome)
def toldP (z : Str) : PyData := match parsedP z with
  | .ok (a, b) => .tuple [strsD a, strsD b]
  | .error n => .list [.int n]
theorem name_signs {z : Str} (h : isNameS z = true) : TL.tl z ≠ [] ∧ (∀ c ∈ TL.tl z, c ∈ nameZ.cps.toList) := by
  unfold isNameS at h
  simp only [Bool.and_eq_true] at h
  have k := h.2.2
  rw [List.all_eq_true] at k
  refine ⟨fun e => ?_, fun c hc => of_decide_eq_true (k c hc)⟩
  have l := of_decide_eq_true h.1
  rw [TL.len_tl, e] at l
  cases l
theorem name_no {z : Str} (h : isNameS z = true) {c : Nat} (hc : c ∉ nameZ.cps.toList) : c ∉ TL.tl z := fun m => hc ((name_signs h).2 c m)
theorem name_dash {z : Str} (h : isNameS z = true) : z ≠ dashS := fun e => by
  have k : 45 ∉ TL.tl z := name_no h (by decide +kernel)
  rw [e] at k
  exact k (by decide +kernel)
/-- the names behind a word, or the sign for none -/
def orDash (ns : List Str) : List Str := if ns = [] then [dashS] else ns
theorem row_some {r : Str} {w : Str} {ns : List Str} (h : rowP r = some (w, ns)) : (w = dfnS ∨ w = ndsS) ∧ ns.all isNameS = true ∧ Txt.split r " " = w :: orDash ns := by
  unfold rowP at h
  cases hs : Txt.split r " " with
  | nil =>
    rw [hs] at h
    cases h
  | cons v ms =>
    rw [hs] at h
    have h : (if v = dfnS ∨ v = ndsS then (if ms = [dashS] then some (v, []) else if 0 < ms.length ∧ ms.all isNameS = true then some (v, ms) else none) else none) = some (w, ns) := h
    by_cases hw : v = dfnS ∨ v = ndsS
    · rw [if_pos hw] at h
      by_cases hd : ms = [dashS]
      · rw [if_pos hd] at h
        cases h
        exact ⟨hw, rfl, by rw [hd]; rfl⟩
      · rw [if_neg hd] at h
        by_cases hn : 0 < ms.length ∧ ms.all isNameS = true
        · rw [if_pos hn] at h
          cases h
          refine ⟨hw, hn.2, ?_⟩
          unfold orDash
          rw [if_neg fun e => by rw [e] at hn; exact absurd hn.1 (by decide)]
        · rw [if_neg hn] at h
          cases h
    · rw [if_neg hw] at h
      cases h
theorem row_mk {w : Str} {ns : List Str} (hw : w = dfnS ∨ w = ndsS) (hn : ns.all isNameS = true) {r : Str} (h : Txt.split r " " = w :: orDash ns) : rowP r = some (w, ns) := by
  unfold rowP
  rw [h]
  show (if w = dfnS ∨ w = ndsS then (if orDash ns = [dashS] then some (w, []) else if 0 < (orDash ns).length ∧ (orDash ns).all isNameS = true then some (w, orDash ns) else none) else none) = _
  rw [if_pos hw]
  unfold orDash
  by_cases e : ns = []
  · rw [if_pos e, if_pos rfl, e]
  · rw [if_neg e]
    have hd : ns ≠ [dashS] := fun h2 => by
      rw [h2] at hn
      exact absurd hn (by decide +kernel)
    rw [if_neg hd, if_pos ⟨List.length_pos_iff.mpr e, hn⟩]
/-- a row, written -/
def rowT (w : Str) (ns : List Str) : Str := Txt.join " " (w :: orDash ns)
theorem orDash_free {ns : List Str} (h : ns.all isNameS = true) {c : Nat} (hc : c ∉ nameZ.cps.toList) (h0 : c ≠ 45) : ∀ z ∈ orDash ns, c ∉ TL.tl z := by
  unfold orDash
  split
  · intro z hz
    rw [List.mem_singleton.mp hz]
    intro hm
    have e : TL.tl dashS = [45] := by decide +kernel
    rw [e] at hm
    exact h0 (List.mem_singleton.mp hm)
  · exact fun z hz => name_no (List.all_eq_true.mp h z hz) hc
theorem word_free {w : Str} (h : w = dfnS ∨ w = ndsS) : 32 ∉ TL.tl w ∧ 10 ∉ TL.tl w := by
  rcases h with rfl | rfl <;> decide +kernel
theorem split_rowT {w : Str} {ns : List Str} (hw : w = dfnS ∨ w = ndsS) (hn : ns.all isNameS = true) : Txt.split (rowT w ns) " " = w :: orDash ns :=
  split_mk sep_sp (by simp) fun p hp => by
    rcases List.mem_cons.mp hp with rfl | hp
    · exact (word_free hw).1
    · exact orDash_free hn (by decide +kernel) (by decide) p hp
theorem joinL_free {S : List Nat} {c : Nat} (hS : c ∉ S) : ∀ {L : List (List Nat)}, (∀ l ∈ L, c ∉ l) → c ∉ TL.joinL S L
  | [], _ => by intro h; cases h
  | [l], h => h l List.mem_cons_self
  | l :: m :: r, h => by
    show c ∉ l ++ (S ++ TL.joinL S (m :: r))
    intro k
    rcases List.mem_append.mp k with k | k
    · exact h l List.mem_cons_self k
    rcases List.mem_append.mp k with k | k
    · exact hS k
    · exact joinL_free hS (fun x hx => h x (List.mem_cons_of_mem _ hx)) k
theorem rowT_nl {w : Str} {ns : List Str} (hw : w = dfnS ∨ w = ndsS) (hn : ns.all isNameS = true) : 10 ∉ TL.tl (rowT w ns) := by
  unfold rowT
  rw [TL.join_eq, TL.tl_join]
  refine joinL_free (by decide +kernel) fun l hl => ?_
  obtain ⟨z, hz, rfl⟩ := List.mem_map.mp hl
  rcases List.mem_cons.mp hz with rfl | hz
  · exact (word_free hw).2
  · exact orDash_free hn (by decide +kernel) (by decide) z hz
/-- a program's text -/
def progT (a b : List Str) : Str := Txt.join "\n" [rowT dfnS a, rowT ndsS b]
theorem split_progT {a b : List Str} (ha : a.all isNameS = true) (hb : b.all isNameS = true) : Txt.split (progT a b) "\n" = [rowT dfnS a, rowT ndsS b] :=
  split_mk sep_nl (by simp) fun p hp => by
    rcases List.mem_cons.mp hp with rfl | hp
    · exact rowT_nl (.inl rfl) ha
    · rw [List.mem_singleton.mp hp]
      exact rowT_nl (.inr rfl) hb
theorem rowP_rowT {w : Str} {ns : List Str} (hw : w = dfnS ∨ w = ndsS) (hn : ns.all isNameS = true) : rowP (rowT w ns) = some (w, ns) := row_mk hw hn (split_rowT hw hn)
theorem rowT_of {r : Str} {w : Str} {ns : List Str} (h : rowP r = some (w, ns)) : r = rowT w ns := by
  obtain ⟨_, _, h3⟩ := row_some h
  unfold rowT
  rw [← h3]
  exact (join_split sep_sp).symm
theorem parsed_prog {a b : List Str} (ha : a.all isNameS = true) (hb : b.all isNameS = true) (ka : okLot a = true) (kb : okLot b = true) : parsedP (progT a b) = .ok (a, b) := by
  unfold parsedP
  rw [split_progT ha hb, List.all_cons, List.all_cons, rowP_rowT (.inl rfl) ha, rowP_rowT (.inr rfl) hb, List.map_cons, List.map_cons, rowP_rowT (.inl rfl) ha, rowP_rowT (.inr rfl) hb]
  show (match progL [some (dfnS, a), some (ndsS, b)] with | some p => _ | none => _) = _
  have e : progL [some (dfnS, a), some (ndsS, b)] = some (a, b) := if_pos ⟨rfl, rfl, ka, kb⟩
  rw [e]
/-! ### the names behind a word -/
def behindL (rows : List (List Str)) (w : Str) : List Str := rows.flatMap fun r => if r.head? = some w then (r.drop 1).filter fun z => !decide (z = dashS) else []
theorem no_dash {zs : List Str} (h : zs.all isNameS = true) : ((orDash zs).filter fun z => !decide (z = dashS)) = zs := by
  unfold orDash
  split
  · rename_i e
    rw [e]
    rfl
  · exact List.filter_eq_self.mpr fun z hz => by rw [decide_eq_false (name_dash (List.all_eq_true.mp h z hz))]; rfl
/-- what the program makes of rows that have their form -/
theorem prog_iff {z : Str} (hall : (Txt.split z "\n").all (fun r => (rowP r).isSome) = true) (a b : List Str)
    (ha : a = behindL ((Txt.split z "\n").map fun r => Txt.split r " ") dfnS) (hb : b = behindL ((Txt.split z "\n").map fun r => Txt.split r " ") ndsS) :
    a.all isNameS = true ∧ b.all isNameS = true ∧ (progL ((Txt.split z "\n").map rowP) = if okLot a = true ∧ okLot b = true ∧ progT a b = z then some (a, b) else none) := by
  have n1 : dfnS ≠ ndsS := by decide +kernel
  have hrow : ∀ r ∈ Txt.split z "\n", ∃ w ns, rowP r = some (w, ns) := fun r hr => by
    have k := List.all_eq_true.mp hall r hr
    obtain ⟨⟨w, ns⟩, e⟩ := Option.isSome_iff_exists.mp k
    exact ⟨w, ns, e⟩
  have gen : ∀ (w : Str) (rows : List Str), (∀ r ∈ rows, ∃ w ns, rowP r = some (w, ns)) → (behindL (rows.map fun r => Txt.split r " ") w).all isNameS = true := by
    intro w rows
    induction rows with
    | nil => intro _; rfl
    | cons r rows ih =>
      intro h
      have i := ih fun x hx => h x (List.mem_cons_of_mem _ hx)
      obtain ⟨v, ns, e⟩ := h r List.mem_cons_self
      obtain ⟨h1, h2, h3⟩ := row_some e
      show ((if (Txt.split r " ").head? = some w then ((Txt.split r " ").drop 1).filter fun z => !decide (z = dashS) else []) ++ behindL (rows.map fun r => Txt.split r " ") w).all isNameS = true
      rw [List.all_append, i, Bool.and_true]
      split
      · rw [h3]
        show ((orDash ns).filter fun z => !decide (z = dashS)).all isNameS = true
        rw [no_dash h2]
        exact h2
      · rfl
  have na : a.all isNameS = true := by rw [ha]; exact gen _ _ hrow
  have nb : b.all isNameS = true := by rw [hb]; exact gen _ _ hrow
  refine ⟨na, nb, ?_⟩
  by_cases hz : progT a b = z
  · have hs := split_progT na nb
    rw [hz] at hs
    rw [hs, List.map_cons, List.map_cons, rowP_rowT (.inl rfl) na, rowP_rowT (.inr rfl) nb, List.map_nil]
    show (if dfnS = dfnS ∧ ndsS = ndsS ∧ okLot a = true ∧ okLot b = true then some (a, b) else none) = _
    by_cases hk : okLot a = true ∧ okLot b = true
    · rw [if_pos ⟨rfl, rfl, hk⟩, if_pos ⟨hk.1, hk.2, hz⟩]
    · rw [if_neg fun h => hk h.2.2, if_neg fun h => hk ⟨h.1, h.2.1⟩]
  · rw [if_neg fun h => hz h.2.2]
    have back : Txt.join "\n" (Txt.split z "\n") = z := join_split sep_nl
    cases hq : progL ((Txt.split z "\n").map rowP) with
    | none => rfl
    | some p =>
      exfalso
      match hs : Txt.split z "\n" with
      | [] => rw [hs] at hq; cases hq
      | [r1] =>
        rw [hs] at hq hrow
        obtain ⟨w, ns, e⟩ := hrow r1 List.mem_cons_self
        rw [List.map_cons, e] at hq
        cases hq
      | r1 :: r2 :: r3 :: rs =>
        rw [hs] at hq hrow
        obtain ⟨w, ns, e⟩ := hrow r1 List.mem_cons_self
        obtain ⟨w2, ns2, e2⟩ := hrow r2 (by simp)
        rw [List.map_cons, List.map_cons, List.map_cons, e, e2] at hq
        cases hq
      | [r1, r2] =>
        rw [hs] at hq hrow back ha hb
        obtain ⟨w1, a1, e1⟩ := hrow r1 List.mem_cons_self
        obtain ⟨w2, b1, e2⟩ := hrow r2 (by simp)
        rw [List.map_cons, List.map_cons, e1, e2] at hq
        have hq : (if w1 = dfnS ∧ w2 = ndsS ∧ okLot a1 = true ∧ okLot b1 = true then some (a1, b1) else none) = some p := hq
        by_cases hw : w1 = dfnS ∧ w2 = ndsS ∧ okLot a1 = true ∧ okLot b1 = true
        · obtain ⟨rfl, rfl, _, _⟩ := hw
          obtain ⟨_, ka, sa⟩ := row_some e1
          obtain ⟨_, kb, sb⟩ := row_some e2
          have ea : a = a1 := by
            rw [ha]
            show (if (Txt.split r1 " ").head? = some dfnS then ((Txt.split r1 " ").drop 1).filter fun z => !decide (z = dashS) else []) ++ ((if (Txt.split r2 " ").head? = some dfnS then ((Txt.split r2 " ").drop 1).filter fun z => !decide (z = dashS) else []) ++ []) = a1
            rw [sa, sb, if_pos (show (dfnS :: orDash a1).head? = some dfnS from rfl), if_neg (show ¬ (ndsS :: orDash b1).head? = some dfnS from fun e => n1 (Option.some.inj e).symm)]
            show ((orDash a1).filter fun z => !decide (z = dashS)) ++ ([] ++ []) = a1
            rw [no_dash ka, List.append_nil, List.append_nil]
          have eb : b = b1 := by
            rw [hb]
            show (if (Txt.split r1 " ").head? = some ndsS then ((Txt.split r1 " ").drop 1).filter fun z => !decide (z = dashS) else []) ++ ((if (Txt.split r2 " ").head? = some ndsS then ((Txt.split r2 " ").drop 1).filter fun z => !decide (z = dashS) else []) ++ []) = b1
            rw [sa, sb, if_neg (show ¬ (dfnS :: orDash a1).head? = some ndsS from fun e => n1 (Option.some.inj e)), if_pos (show (ndsS :: orDash b1).head? = some ndsS from rfl)]
            show [] ++ (((orDash b1).filter fun z => !decide (z = dashS)) ++ []) = b1
            rw [no_dash kb, List.append_nil, List.nil_append]
          rw [rowT_of e1, rowT_of e2] at back
          exact hz (by rw [ea, eb]; exact back)
        · rw [if_neg hw] at hq
          cases hq

end LK
namespace LK
open PySem PySem.Spec PyProof.Rows L2
/-! ### calls of defs that show something, where nothing is being shown -/
section
variable {X : Cx} {CX : CXT} {k : Nat} {f : Addr} {fd : FuncData} {ps : List Str} {sp : Sp} {E : XK} {ds : List Value} {dvs : List V}
theorem run_fnG {pins : List (Addr × Obj)} {σ : L2.St} {H : Hp} {s : Shared} {Q : VK} {us : List Value} {vs : List V} (F : FnG X.prog X.w X.K X.mg X.base CX k f fd ps sp) (hG : X.A.guards = some []) (hr : Room k X.A) (hb : Binds X.K fd ps ds) (hd : Vals dvs ds) (hx : Passes CX X E)
    (I : Inv X pins σ H s) (r : Vals vs us) (h : sp (vs ++ dvs) H Q E) : wpAny (model X.prog X.w) X.A (call (.ref f) us) (EP X pins σ Q) X.xe s := by
  have r2 : Vals (vs ++ dvs) (us ++ ds) := r.append hd
  have hl : (us ++ ds).length = ps.length := by rw [← r2.length]; exact F.len _ _ _ _ h
  refine wpAny_call (codeAny_mono (F.go X.A hG hr X.stack s H ⟨us, []⟩ (us ++ ds) (vs ++ dvs) Q E I.env0 (hb s us I.kIn hl) r2 h) fun r s' hq => ?_)
  cases r with
  | error e => exact hx pins σ H s e s' I hq
  | ok fl =>
    cases fl with
    | ret u => exact I.after hq
    | next => exact False.elim hq
    | brk => exact False.elim hq
    | cont => exact False.elim hq
end
theorem FnG.mono {P : Program} {w : World} {K : PySem.W.Frag} {mg : Str → Option Value} {base : Heap} {CX : CXT} {k j : Nat} {f : Addr} {fd : FuncData} {ps : List Str} {sp : Sp} (F : FnG P w K mg base CX k f fd ps sp) (h : k ≤ j) : FnG P w K mg base CX j f fd ps sp :=
  ⟨F.len, fun A hG hr => F.go A hG (hr.mono h)⟩
/-- a def of the top that shows something, by its name -/
structure LnkG (P : Program) (w : World) (K : PySem.W.Frag) (mg : Str → Option Value) (base : Heap) (x : Str) (k : Nat) (ps : List Str) (sp : Sp) : Prop where
  ex : ∃ f fd, mg x = some (.ref f) ∧ PySem.W.keepIn K (.ref f) = true ∧ FnG P w K mg base CX0 k f fd ps sp ∧ Binds K fd ps []
section
variable {X : Cx} {x : Str} {k : Nat} {ps : List Str} {sp : Sp} {p pos : Pos} {e : Expr} {es : List Expr} {t : TA}
theorem pe_lnkG (L : LnkG X.prog X.w X.K X.mg X.base x k ps sp) (hG : X.A.guards = some []) (hr : Room k X.A) (hg : Gl X x) (ha : PA X (e :: es) t) (hdb : (x == ("__debug__" : Str)) = false := by decide) (he : starEach (e :: es) X.env = (false, eval e X.env) :: starEach es X.env := by rfl)
    (hpl : (backTo pos (starEach es X.env)).any (·.1) = false := by rfl) : PE X (.Call (.Name x p) (e :: es) [] pos) (tCall sp [] (fun _ _ _ => False) t) := by
  obtain ⟨f, fd, m, kp, F, b⟩ := L.ex
  refine ⟨fun pins s σ H Q I h => ?_⟩
  refine wpAny_Call_Name_kw (ld_glob I hg m ?_ hdb)
  refine PySem.W.callWith_K (h₀ := X.base) I.ok.mod.kin kp (thn (ha.run pos pins s σ H _ I h) fun us s1 ⟨vs, H1, I1, r, q⟩ => ⟨I1.kIn, ?_⟩) he hpl
  exact run_fnG F hG hr b .nil pass0 I1 r q
theorem LnkG.up {P : Program} {w : World} {K : PySem.W.Frag} {mg : Str → Option Value} {base : Heap} {j : Nat} (L : LnkG P w K mg base x j ps sp) (h : j ≤ k) : LnkG P w K mg base x k ps sp := by
  obtain ⟨f, fd, m, kp, F, b⟩ := L.ex
  exact ⟨f, fd, m, kp, F.mono h, b⟩
end
end LK
namespace LK
open PySem PySem.Spec PyProof.Rows L2
/-! ### data whose lists stand apart from S -/
mutual
inductive DrN (S : List Addr) (H : Hp) : V → PyData → Prop
  | non : DrN S H .non .none
  | bl (b : Bool) : DrN S H (.bl b) (.bool b)
  | int (i : Int) : DrN S H (.int i) (.int i)
  | str (x : Str) : DrN S H (.str x) (.str x)
  | lst {a : Addr} {xs : List V} {ds : List PyData} : H a = some (.lst xs) → a ∉ S → DrNAll S H xs ds → DrN S H (.ref a) (.list ds)
  | tup {a : Addr} {xs : List V} {ds : List PyData} : H a = some (.tup xs) → DrNAll S H xs ds → DrN S H (.ref a) (.tuple ds)
  | dct {a : Addr} : H a = some (.dK []) → DrN S H (.ref a) (.dict [])
inductive DrNAll (S : List Addr) (H : Hp) : List V → List PyData → Prop
  | nil : DrNAll S H [] []
  | cons {v : V} {vs : List V} {d : PyData} {ds : List PyData} : DrN S H v d → DrNAll S H vs ds → DrNAll S H (v :: vs) (d :: ds)
end
section
variable {S : List Addr} {H H1 : Hp}
mutual
theorem DrN.dr : ∀ {v : V} {d : PyData}, DrN S H v d → Dr H v d
  | _, _, .non => .non
  | _, _, .bl b => .bl b
  | _, _, .int i => .int i
  | _, _, .str x => .str x
  | _, _, .lst h _ k => .lst h (DrNAll.dr k)
  | _, _, .tup h k => .tup h (DrNAll.dr k)
  | _, _, .dct h => .dct h
theorem DrNAll.dr : ∀ {vs : List V} {ds : List PyData}, DrNAll S H vs ds → DrAll H vs ds
  | _, _, .nil => .nil
  | _, _, .cons h k => .cons (DrN.dr h) (DrNAll.dr k)
end
-- what S and the heap may become
mutual
theorem DrN.go {S1 : List Addr} (hl : ∀ b xs, H b = some (.lst xs) → b ∉ S → H1 b = some (.lst xs) ∧ b ∉ S1) (ht : ∀ b xs, H b = some (.tup xs) → H1 b = some (.tup xs)) (hd : ∀ b, H b = some (.dK []) → H1 b = some (.dK [])) : ∀ {v : V} {d : PyData}, DrN S H v d → DrN S1 H1 v d
  | _, _, .non => .non
  | _, _, .bl b => .bl b
  | _, _, .int i => .int i
  | _, _, .str x => .str x
  | _, _, .lst h n k => .lst (hl _ _ h n).1 (hl _ _ h n).2 (DrNAll.go hl ht hd k)
  | _, _, .tup h k => .tup (ht _ _ h) (DrNAll.go hl ht hd k)
  | _, _, .dct h => .dct (hd _ h)
theorem DrNAll.go {S1 : List Addr} (hl : ∀ b xs, H b = some (.lst xs) → b ∉ S → H1 b = some (.lst xs) ∧ b ∉ S1) (ht : ∀ b xs, H b = some (.tup xs) → H1 b = some (.tup xs)) (hd : ∀ b, H b = some (.dK []) → H1 b = some (.dK [])) : ∀ {vs : List V} {ds : List PyData}, DrNAll S H vs ds → DrNAll S1 H1 vs ds
  | _, _, .nil => .nil
  | _, _, .cons h k => .cons (DrN.go hl ht hd h) (DrNAll.go hl ht hd k)
end
theorem DrN.mono {v : V} {d : PyData} (h : DrN S H v d) (s : Same H H1) : DrN S H1 v d := h.go (fun b xs e n => ⟨s _ _ e, n⟩) (fun b xs e => s _ _ e) (fun b e => s _ _ e)
theorem DrNAll.mono {vs : List V} {ds : List PyData} (h : DrNAll S H vs ds) (s : Same H H1) : DrNAll S H1 vs ds := h.go (fun b xs e n => ⟨s _ _ e, n⟩) (fun b xs e => s _ _ e) (fun b e => s _ _ e)
theorem sabN {a : Addr} {ys : List V} (s : Sab a H H1) (ha : a ∈ S) (e : H a = some (.lst ys)) : (∀ b xs, H b = some (.lst xs) → b ∉ S → H1 b = some (.lst xs) ∧ b ∉ S) ∧ (∀ b xs, H b = some (.tup xs) → H1 b = some (.tup xs)) ∧ (∀ b, H b = some (.dK []) → H1 b = some (.dK [])) :=
  ⟨fun b xs k n => ⟨s _ _ (fun z => n (z ▸ ha)) k, n⟩, fun b xs k => s _ _ (fun z => by rw [z, e] at k; cases k) k, fun b k => s _ _ (fun z => by rw [z, e] at k; cases k) k⟩
theorem DrN.sab {a : Addr} {ys : List V} {v : V} {d : PyData} (h : DrN S H v d) (s : Sab a H H1) (ha : a ∈ S) (e : H a = some (.lst ys)) : DrN S H1 v d := h.go (sabN s ha e).1 (sabN s ha e).2.1 (sabN s ha e).2.2
theorem DrNAll.sab {a : Addr} {ys : List V} {vs : List V} {ds : List PyData} (h : DrNAll S H vs ds) (s : Sab a H H1) (ha : a ∈ S) (e : H a = some (.lst ys)) : DrNAll S H1 vs ds := h.go (sabN s ha e).1 (sabN s ha e).2.1 (sabN s ha e).2.2
theorem DrN.add {p : Addr} {v : V} {d : PyData} (h : DrN S H v d) (n : H p = none) : DrN (p :: S) H v d := h.go (fun b xs e k => ⟨e, fun z => (List.mem_cons.mp z).elim (fun z => by rw [z, n] at e; cases e) k⟩) (fun b xs e => e) (fun b e => e)
theorem DrNAll.add {p : Addr} {vs : List V} {ds : List PyData} (h : DrNAll S H vs ds) (n : H p = none) : DrNAll (p :: S) H vs ds := h.go (fun b xs e k => ⟨e, fun z => (List.mem_cons.mp z).elim (fun z => by rw [z, n] at e; cases e) k⟩) (fun b xs e => e) (fun b e => e)
theorem DrN.sub {S1 : List Addr} {v : V} {d : PyData} (h : DrN S H v d) (k : ∀ x ∈ S1, x ∈ S) : DrN S1 H v d := h.go (fun b xs e n => ⟨e, fun z => n (k _ z)⟩) (fun b xs e => e) (fun b e => e)
mutual
theorem DrN.flat : ∀ {v : V} {d : PyData}, flatD d = true → Dr H v d → DrN S H v d
  | _, _, _, .non => .non
  | _, _, _, .bl b => .bl b
  | _, _, _, .int i => .int i
  | _, _, _, .str x => .str x
  | _, _, f, .lst h k => (nomatch f)
  | _, _, f, .tup h k => .tup h (DrNAll.flat f k)
  | _, _, f, .dct h => (nomatch f)
theorem DrNAll.flat : ∀ {vs : List V} {ds : List PyData}, flatA ds = true → DrAll H vs ds → DrNAll S H vs ds
  | _, _, _, .nil => .nil
  | _, _, f, .cons h k => .cons (DrN.flat (Bool.and_eq_true_iff.mp f).1 h) (DrNAll.flat (Bool.and_eq_true_iff.mp f).2 k)
end
theorem DrNAll.len : ∀ {vs : List V} {ds : List PyData}, DrNAll S H vs ds → vs.length = ds.length
  | _, _, .nil => rfl
  | _, _, .cons _ k => congrArg (· + 1) (DrNAll.len k)
theorem DrNAll.append : ∀ {vs ws : List V} {ds es : List PyData}, DrNAll S H vs ds → DrNAll S H ws es → DrNAll S H (vs ++ ws) (ds ++ es)
  | _, _, _, _, .nil, k => k
  | _, _, _, _, .cons h t, k => .cons h (DrNAll.append t k)
theorem DrNAll.take : ∀ {vs : List V} {ds : List PyData} (n : Nat), DrNAll S H vs ds → DrNAll S H (vs.take n) (ds.take n)
  | _, _, 0, _ => by rw [List.take_zero, List.take_zero]; exact .nil
  | _, _, n + 1, .nil => .nil
  | _, _, n + 1, .cons h t => .cons h (DrNAll.take n t)
theorem DrNAll.drop : ∀ {vs : List V} {ds : List PyData} (n : Nat), DrNAll S H vs ds → DrNAll S H (vs.drop n) (ds.drop n)
  | _, _, 0, h => h
  | _, _, n + 1, .nil => .nil
  | _, _, n + 1, .cons _ t => DrNAll.drop n t
theorem DrNAll.reverse : ∀ {vs : List V} {ds : List PyData}, DrNAll S H vs ds → DrNAll S H vs.reverse ds.reverse
  | _, _, .nil => .nil
  | _, _, .cons h t => by
    rw [List.reverse_cons, List.reverse_cons]
    exact (DrNAll.reverse t).append (.cons h .nil)
theorem DrNAll.get : ∀ {vs : List V} {ds : List PyData} {i : Nat} {v : V}, DrNAll S H vs ds → vs[i]? = some v → ∃ d, ds[i]? = some d ∧ DrN S H v d
  | _, _, i, _, .nil, e => by simp at e
  | _, _, 0, _, .cons h _, e => by cases e; exact ⟨_, rfl, h⟩
  | _, _, i + 1, _, .cons _ t, e => DrNAll.get (i := i) t (by rw [List.getElem?_cons_succ] at e; exact e)
end
/-! ### lists that are made do not stand at the modules' place -/
def tLstS (t : TA) : TE := fun σ H Q => t σ H fun xs H1 => xs.length ≤ sizeLine ∧ ∀ p, H1 p = none → p ≠ sysModules → Q (.ref p) (upd H1 p (.lst xs))
section
variable {X : Cx} {es : List Expr} {t : TA} {pos : Pos}
theorem pe_lstS (h : PA X es t) : PE X (.List es pos) (tLstS t) := by
  refine ⟨fun pins s σ H Q I hq => ?_⟩
  refine wpAny_List_spliced (thn (h.run pos pins s σ H _ I hq) fun us s1 ⟨xs, H1, I1, r, z, q⟩ => ⟨by rw [← r.length]; exact z, ?_⟩)
  have hf : H1 s1.heap.objs.size = none := I1.hok.fresh (Nat.le_refl _)
  refine ⟨.ref s1.heap.objs.size, upd H1 s1.heap.objs.size (.lst xs), I1.laid (t' := s1.toks) (fun b u e => Heap.get?_push_of_some _ e) (Nat.le_refl _) ?_, rfl, q _ hf (Nat.ne_of_gt I1.big)⟩
  exact ⟨z, us, 0, r, Heap.get?_push_size _ rfl⟩
def rListS : List V → Hp → VK → Prop := fun xs H Q => ∃ p ys, xs = [.ref p] ∧ (H p = some (.lst ys) ∨ H p = some (.tup ys)) ∧ ∀ l, H l = none → l ≠ sysModules → Q (.ref l) (upd H l (.lst ys))
theorem call_listS : CallR X (.type "list") rListS := by
  intro pins s σ H xs us Q I r h
  obtain ⟨p, ys, rfl, hq, q⟩ := h
  obtain ⟨u, rfl, rx⟩ := vals1 r
  cases rx
  have fin : ∀ (its : List Value), Vals ys its → ys.length ≤ sizeLine → ∀ (h' : Heap) (c' : Nat), (∀ b o', s.heap.get? b = some o' → h'.get? b = some o') →
      h'.get? s.heap.objs.size = some { cls := .type "list", dict := none, data := .seq its.toArray c', slots := #[] } → EP X pins σ Q (.ref s.heap.objs.size) { s with heap := h' } := fun its r' hz h' c' kp e =>
    ⟨.ref s.heap.objs.size, _, I.laid (t' := s.toks) kp (Nat.le_refl _) (show ObjOk X.prog X.w _ h' _ (.lst ys) from ⟨hz, its, c', r', e⟩), rfl, q _ (I.hok.fresh (Nat.le_refl _)) (Nat.ne_of_gt I.big)⟩
  rcases hq with hq | hq
  · obtain ⟨its, r', pl, hz⟩ := I.list (SqL.of hq)
    have hlen := r'.length
    obtain ⟨o, ho, hc, n, hd⟩ := pl.isList
    exact call_list_seq p (.inl rfl) ho hc hd (fun h' c' kp e => fin its r' hz h' c' kp e) (by simp only [List.size_toArray] <;> omega)
  · obtain ⟨its, r', pl, hz⟩ := I.tuple (SqT.of hq)
    have hlen := r'.length
    obtain ⟨o, ho, hc, n, hd⟩ := pl
    exact call_list_seq p (.inr rfl) ho hc hd (fun h' c' kp e => fin its r' hz h' c' kp e) (by simp only [List.size_toArray] <;> omega)
end
/-! ### repr of such data -/
section
variable {X : Cx} {S : List Addr} {pins : List (Addr × Obj)} {σ : L2.St} {H : Hp} {s : Shared}
mutual
theorem DrN.reads (hS : sysModules ∈ S) (I : Inv X pins σ H s) : ∀ (d : PyData) (v : V) (u : Value), DrN S H v d → RelV v u → ∃ as, Reads s.heap u d as ∧ ∀ b ∈ as, b ≠ sysModules
  | .none, _, _, h, r => by
    cases h
    cases r
    exact ⟨_, .none, fun b z => (nomatch z)⟩
  | .bool b, _, _, h, r => by
    cases h
    cases r
    exact ⟨_, .bool b, fun b z => (nomatch z)⟩
  | .int i, _, _, h, r => by
    cases h
    obtain ⟨t, rfl⟩ := r
    exact ⟨_, .int i t, fun b z => (nomatch z)⟩
  | .str x, _, _, h, r => by
    cases h
    obtain ⟨t, rfl⟩ := r
    exact ⟨_, .str x t, fun b z => (nomatch z)⟩
  | .list ds, _, _, h, r => by
    cases h with
    | lst hs hn ha =>
      cases r
      obtain ⟨its, rv, ⟨o, n, ho, hc, _, hd⟩, _⟩ := I.list (SqL.of hs)
      obtain ⟨as, hr, hb⟩ := DrN.readsAll hS I ds _ its ha rv
      refine ⟨_, .list ho hc hd hr, fun b z => ?_⟩
      rcases List.mem_cons.mp z with e | e
      · subst e
        exact fun z => hn (z ▸ hS)
      · exact hb b e
  | .tuple ds, _, _, h, r => by
    cases h with
    | tup hs ha =>
      cases r
      obtain ⟨its, rv, ⟨o, ho, hc, n, hd⟩, _⟩ := I.tuple (SqT.of hs)
      obtain ⟨as, hr, hb⟩ := DrN.readsAll hS I ds _ its ha rv
      exact ⟨_, .tuple ho hc hd hr, hb⟩
  | .dict kvs, _, _, h, r => by
    cases h with
    | dct hs =>
      cases r
      obtain ⟨_, _, vs, rel, dd⟩ := dk_of I.hok hs
      cases rel
      obtain ⟨o, es, ep, ho, hx, hda, _, hp, _⟩ := dd
      have hz := hp.length
      have he : es = #[] := Array.eq_empty_of_size_eq_zero (by simpa using hz)
      subst he
      refine ⟨_, .dict (as := []) (bs := []) ho hx.1 hda .nil .nil, fun b z => ?_⟩
      rcases List.mem_cons.mp z with e | e
      · subst e
        exact fun z => by
          obtain ⟨_, e6, _⟩ := dk_of I.hok hs
          exact absurd z (beq_eq_false_iff_ne.mp e6)
      · exact (nomatch e)
theorem DrN.readsAll (hS : sysModules ∈ S) (I : Inv X pins σ H s) : ∀ (ds : List PyData) (vs : List V) (us : List Value), DrNAll S H vs ds → Vals vs us → ∃ as, ReadsAll s.heap us ds as ∧ ∀ b ∈ as, b ≠ sysModules
  | [], _, _, h, r => by
    cases h
    cases r
    exact ⟨_, .nil, fun b z => (nomatch z)⟩
  | d :: ds, _, _, h, r => by
    cases h with
    | cons h1 h2 =>
      cases r with
      | cons r1 r2 =>
        obtain ⟨as, q1, b1⟩ := DrN.reads hS I d _ _ h1 r1
        obtain ⟨bs, q2, b2⟩ := DrN.readsAll hS I ds _ _ h2 r2
        refine ⟨_, .cons q1 q2, fun b z => ?_⟩
        rcases List.mem_append.mp z with e | e
        · exact b1 b e
        · exact b2 b e
end
end
section
variable {X : Cx}
/-- repr(x) of data (its dict, if it has one, is all of it) -/
def rReprN : List V → Hp → VK → Prop := fun xs H Q => ∃ (x : V) (d : PyData), xs = [x] ∧ Dr H x d ∧ d.showable = true ∧ d.depth ≤ 40 ∧ ((∀ i, d ≠ .int i) → d.shown.length ≤ sizeLine) ∧ (d.hasDict = true → ∃ S, sysModules ∈ S ∧ DrN S H x d) ∧ Q (.str d.shown) H
theorem call_reprN (hG : X.A.guards = some []) (hu : X.A.units + 64 < cLine) : CallR X (.builtin "repr") rReprN := by
  intro pins s σ H xs us Q I r h
  obtain ⟨x, d, rfl, hd, hs, hdep, hz, hk, q⟩ := h
  cases r with
  | cons rx rr =>
    rename_i u us
    cases rr
    have byRef : ∀ a, u = .ref a → wpAny (model X.prog X.w) X.A (call (.builtin "repr") [u]) (EP X pins σ Q) X.xe s := fun a e => by
      subst e
      cases hq : d.hasDict with
      | true =>
        obtain ⟨S, hS, hN⟩ := hk hq
        obtain ⟨as, hr, hb⟩ := DrN.reads hS I d x _ hN rx
        exact repr_of_reads' hr hs (fun _ hm => hb _ hm rfl) hG (by omega) (fun _ _ e => e) (fun h1 u1 tk k => ⟨.str d.shown, H, I.kept (t' := tk) k, ⟨u1, rfl⟩, q⟩) (hz fun i ei => by subst ei; cases hr)
      | false =>
        obtain ⟨as, hr, hb⟩ := Dr.reads I d x _ hd rx
        exact repr_of_reads' hr hs (fun z => by rw [hq] at z; cases z) hG (by omega) (fun _ _ e => e) (fun h1 u1 tk k => ⟨.str d.shown, H, I.kept (t' := tk) k, ⟨u1, rfl⟩, q⟩) (hz fun i ei => by subst ei; cases hr)
    cases hd with
    | non =>
      cases rx
      exact PySem.P.repr_of_none ⟨.str _, H, I.tok _, ⟨_, rfl⟩, q⟩
    | bl b =>
      cases rx
      exact PySem.P.repr_of_bool ⟨.str _, H, I.tok _, ⟨_, rfl⟩, q⟩
    | int i =>
      obtain ⟨t, rfl⟩ := rx
      exact PySem.P.repr_of_int (of_decide_eq_true hs) ⟨.str _, H, I.tok _, ⟨_, rfl⟩, q⟩
    | str x =>
      obtain ⟨t, rfl⟩ := rx
      exact PySem.P.repr_of_str ⟨.str _, H, I.tok _, ⟨_, rfl⟩, q⟩ (hz fun i ei => by cases ei)
    | lst h1 h2 =>
      cases rx
      exact byRef _ rfl
    | tup h1 h2 =>
      cases rx
      exact byRef _ rfl
    | dct h1 =>
      cases rx
      exact byRef _ rfl
end
end LK
namespace HT
open PySem PySem.Spec PyProof.Rows L2
section
variable {prog : Program} {w : World} {A : Around} {E : Value → Shared → Prop} {s : Shared}
theorem places_rev (n : Nat) : Builtin.Slice.slicePlaces ((n : Int) - 1) (-1) (-1) = n := by
  unfold Builtin.Slice.slicePlaces
  have h1 : ¬ ((-1 : Int) > 0) := by omega
  simp only [h1, if_false, show (-(-1) : Int) = 1 from rfl, Int.ediv_one]
  split <;> omega
theorem adjust_rev (n : Nat) : Builtin.Slice.sliceAdjust none none (-1) (n : Int) = ((n : Int) - 1, -1) := by
  unfold Builtin.Slice.sliceAdjust
  rfl
theorem sliceApplied_rev {sl : Addr} {vs : Value} {n : Nat} {Q : Int × Int × Nat → Shared → Prop} (hs : s.heap.IsSliceOf sl .none .none vs) (ps : IsPart vs (some (-1)))
    (h : Q ((n : Int) - 1, -1, n) s) : wpAny (model prog w) A (Builtin.Slice.sliceApplied (.ref sl) (pure (n : Int))) Q E s := by
  obtain ⟨os, hos, hcs, hds⟩ := id hs
  unfold Builtin.Slice.sliceApplied Builtin.Slice.sliceFields
  refine wpAny_bind (wpAny_bind (wpAny_field hos hds (x := .none) rfl (wpAny_bind (wpAny_field hos hds (x := .none) rfl (wpAny_bind (wpAny_field hos hds (x := vs) rfl (wpAny_pure ?_)))))))
  refine wpAny_bind (slicePart_ ps ?_)
  show wpAny _ _ (if ((-1 : Int) == 0) = true then _ else _) _ _ s
  rw [if_neg (by decide)]
  refine wpAny_bind (slicePart_none (wpAny_bind (slicePart_none (wpAny_bind (wpAny_pure ?_)))))
  show wpAny _ _ (match Builtin.Slice.sliceAdjust none none (-1) (n : Int) with | (lo, hi) => pure (lo, (-1 : Int), Builtin.Slice.slicePlaces lo hi (-1))) _ _ s
  rw [adjust_rev n]
  show wpAny _ _ (pure ((n : Int) - 1, (-1 : Int), Builtin.Slice.slicePlaces ((n : Int) - 1) (-1) (-1))) _ _ s
  rw [places_rev]
  exact wpAny_pure h
theorem pick_rev (xs : Array Value) : ((List.range xs.size).filterMap fun (m : Nat) => xs[((xs.size : Int) - 1 + (m : Int) * (-1)).toNat]?).toArray = xs.toList.reverse.toArray := by
  have e : (List.range xs.size).filterMap (fun (m : Nat) => xs[((xs.size : Int) - 1 + (m : Int) * (-1)).toNat]?) = ((List.range xs.size).map fun k => xs.size - 1 - k).filterMap (xs[·]?) := by
    rw [List.filterMap_map]
    have g : ∀ l : List Nat, (∀ m ∈ l, m < xs.size) → l.filterMap (fun (m : Nat) => xs[((xs.size : Int) - 1 + (m : Int) * (-1)).toNat]?) = l.filterMap ((fun x => xs[x]?) ∘ fun k => xs.size - 1 - k) := fun l => by
      induction l with
      | nil => intro _; rfl
      | cons m l ih =>
        intro hl
        have z := hl m List.mem_cons_self
        have e2 : ((xs.size : Int) - 1 + (m : Int) * (-1)).toNat = xs.size - 1 - m := by omega
        rw [List.filterMap_cons, List.filterMap_cons, ih fun k hk => hl k (List.mem_cons_of_mem _ hk), e2]
        rfl
    exact g _ fun m hm => List.mem_range.mp hm
  rw [e, PySem.W.krv_range, List.filterMap_reverse, PySem.W.krv_all]
theorem getItem_tuple_rev {t sl : Addr} {items : Array Value} {vs : Value} {Q : Value → Shared → Prop} (ht : IsTup s.heap t items) (hs : s.heap.IsSliceOf sl .none .none vs) (ps : IsPart vs (some (-1)))
    (h : Q (.ref s.heap.objs.size) { s with heap := s.heap.push { cls := .type "tuple", data := .seq items.toList.reverse.toArray } })
    (hsz : items.size ≤ sizeLine) : wpAny (model prog w) A (getItem (.ref t) (.ref sl)) Q E s := by
  have htake : sizeOk (.seq items.toList.reverse.toArray) := by
    show items.toList.reverse.toArray.size ≤ sizeLine
    rw [List.size_toArray, List.length_reverse, Array.length_toList]
    exact hsz
  obtain ⟨os, hos, hcs, hds⟩ := id hs
  have hTs : s.TypeIs (.ref sl) "slice" := ⟨os, hos, hcs⟩
  unfold getItem
  try with_reducible refine wpAny_holding ?_
  first | refine wpAny_bind (wpAny_pure ?_) | skip
  refine wpAny_bind (wpAny_sequenceKey ht.typeIs (by decide) ?_)
  refine wpAny_bind (wpAny_callSpecial?_slot (name := Str.ofString "__getitem__") ht.typeIs PyProof.Rows.slot_tuple_getitem
    (wpAny_call_entry PyProof.Rows.slot_tuple_getitem ht.typeIs entry_tuple_getitem ?_ (args_tuple_getitem _ _)))
  show wpAny _ _ (Builtin.Tuple.tupleItemsOf (.ref t) >>= _) _ _ s
  refine wpAny_bind (tupleItemsOf_ ht ?_)
  refine wpAny_bind (wpAny_typeOf hTs ?_)
  rw [if_pos (by decide)]
  refine wpAny_bind (sliceApplied_rev hs ps ?_)
  have hno : ¬ ((((items.size : Int) - 1) == 0 && (-1 : Int) == 1 && items.size == items.size) = true) := by
    rw [show ((-1 : Int) == 1) = false by decide, Bool.and_false, Bool.false_and]
    decide
  show wpAny _ _ (if (((items.size : Int) - 1) == 0 && (-1 : Int) == 1 && items.size == items.size) = true then _ else _) _ _ s
  rw [if_neg hno, pick_rev]
  first
    | exact wpAny_bind (m := Builtin.Tuple.tupleExact _) (wpAny_newObj_type (wpAny_pure ⟨_, rfl, wpAny_pure h⟩) htake)
    | exact wpAny_bind (m := Builtin.Tuple.tupleExact _) (wpAny_newObj_type (wpAny_bind (wpAny_pure (wpAny_pure ⟨_, rfl, wpAny_pure h⟩))) htake)
    | exact wpAny_bind (wpAny_bind (m := Builtin.Tuple.tupleExact _) (wpAny_newObj_type (wpAny_pure (wpAny_pure ⟨_, rfl, wpAny_pure h⟩)) htake))
    | exact wpAny_bind (wpAny_bind (m := Builtin.Tuple.tupleExact _) (wpAny_newObj_type (wpAny_pure ⟨_, rfl, wpAny_pure h⟩) htake))
end
end HT
namespace LK
open PySem PySem.Spec PyProof.Rows L2
section
variable {X : Cx}
/-- t[::-1] -/
def tRevT (K : PySem.W.Frag) (te : TE) : TE := fun σ H Q => te σ H fun x H1 => ∃ a xs, x = .ref a ∧ SqT K H1 a xs ∧ ∀ p, H1 p = none → Q (.ref p) (upd H1 p (.tup xs.reverse))
theorem pe_revT {e : Expr} {te : TE} {k : Nat} {p1 p2 p3 pos : Pos} (he : PE X e te) : PE X (.Subscript e (.Slice none none (some (.UnaryOp .USub (.Constant (.int 1) k p1) p2)) p3) pos) (tRevT X.K te) := by
  refine ⟨fun pins s σ H Q I h => ?_⟩
  refine Subscript_ (thn (he.run pins s σ H _ I h) fun v s1 ⟨x, H1, I1, r1, q1⟩ => ?_)
  obtain ⟨a, xs, ex, hx, q⟩ := q1
  subst ex
  cases r1
  have hst : PO X (some (.UnaryOp .USub (.Constant (.int 1) k p1) p2)) (tPart (tUn (rU fun i => .int (-i)) (tC (.int 1)))) := po_some (pe_un un_neg pe_int)
  refine wpAny_Slice (thn (po_none.run pins s1 σ H1 (fun o H2 => o = none ∧ H2 = H1) I1 ⟨rfl, rfl⟩) fun vl s2 ⟨l, H2, I2, pl, el, e2⟩ => ?_)
  subst el e2
  refine thn (po_none.run pins s2 σ H2 (fun o H3 => o = none ∧ H3 = H2) I2 ⟨rfl, rfl⟩) fun vu s3 ⟨u, H3, I3, pu, eu, e3⟩ => ?_
  subst eu e3
  refine thn (hst.run pins s3 σ H3 (fun o H4 => o = some (-1) ∧ H4 = H3) I3 ⟨1, rfl, -1, rfl, rfl, rfl⟩) fun vs s4 ⟨o, H4, I4, ps, eo, e4⟩ => ?_
  subst eo e4
  cases pl
  cases pu
  have I5 : Inv X pins σ H4 { s4 with heap := s4.heap.push { cls := .type "slice", data := .fields #[.none, .none, vs] } } := I4.kept (t' := s4.toks) fun b ob q => Heap.get?_push_of_some _ q
  obtain ⟨its, r, ht, hz⟩ := I5.tuple hx
  have hlen := r.length
  show wpAny (model X.prog X.w) X.A (subscriptTail e (.Slice none none (some (.UnaryOp .USub (.Constant (.int 1) k p1) p2)) p3) (.ref a) (.ref s4.heap.objs.size)) (EP X pins σ Q) X.xe { s4 with heap := s4.heap.push { cls := .type "slice", data := .fields #[.none, .none, vs] } }
  refine tail_any (ops := [.ref a, .ref s4.heap.objs.size]) ht.typeIs (PyProof.Rows.slot_tuple_getitem.lookup) ?_ (by with_unfolding_all rfl)
  refine HT.getItem_tuple_rev ht (Heap.IsSliceOf.new _ .none .none vs) ps ?_ (by rw [List.size_toArray]; omega)
  refine ⟨.ref _, _, I5.laid (t' := s4.toks) (o := .tup xs.reverse) (fun b ob q => Heap.get?_push_of_some _ q) (Nat.le_refl _) ?_, rfl, q _ (I5.hok.fresh (Nat.le_refl _))⟩
  exact ⟨by rw [List.length_reverse]; exact hz, _, r.reverse, IsTup.new _ _⟩
/-- t != () -/
def rNeE : R2 := fun x y H Q => ∃ p q xs, x = .ref p ∧ y = .ref q ∧ H p = some (.tup xs) ∧ H q = some (.tup []) ∧ Q (.bl (!decide (xs.length = 0))) H
theorem op_neE (hu : X.A.units + 64 < cLine) : OpR X (compareOp .NotEq) rNeE := by
  intro pins s σ H x y v u Q I rx ry h
  obtain ⟨p, q, xs, rfl, rfl, hp, hq, k⟩ := h
  cases rx
  cases ry
  obtain ⟨its, r, ht, hz⟩ := I.tuple (SqT.of hp)
  obtain ⟨its2, r2, ht2, hz2⟩ := I.tuple (SqT.of hq)
  cases r2
  have z := SeqAt.RcNeAt.tuples (A := X.A) (s := s) (e := fun _ => true) ht ht2 (by omega) (fun j h1 h2 => by simp at h2) X.prog X.w X.xe (EP X pins σ Q)
  have hl := r.length
  have e : (!((List.range (min its.toArray.size ([] : List Value).toArray.size)).all (fun _ => true) && its.toArray.size == ([] : List Value).toArray.size)) = !decide (xs.length = 0) := by
    rw [List.size_toArray, List.size_toArray, List.length_nil, Nat.min_zero]
    show (!(true && its.length == 0)) = _
    rw [Bool.true_and, ← hl]
    cases xs with
    | nil => rfl
    | cons y ys => rfl
  rw [e] at z
  exact z ⟨.bl (!decide (xs.length = 0)), H, I, rfl, k⟩
/-- l == [] -/
def rEqLE : R2 := fun x y H Q => ∃ p q xs, x = .ref p ∧ y = .ref q ∧ H p = some (.lst xs) ∧ H q = some (.lst []) ∧ Q (.bl (decide (xs.length = 0))) H
theorem op_eqLE (hu : X.A.units + 64 < cLine) : OpR X (compareOp .Eq) rEqLE := by
  intro pins s σ H x y v u Q I rx ry h
  obtain ⟨p, q, xs, rfl, rfl, hp, hq, k⟩ := h
  cases rx
  cases ry
  obtain ⟨its, r, ht, hz⟩ := I.list (SqL.of hp)
  obtain ⟨its2, r2, ht2, hz2⟩ := I.list (SqL.of hq)
  cases r2
  have hl := r.length
  cases xs with
  | nil =>
    cases r
    have z := SeqAt.RcAt.lists (A := X.A) (s := s) (e := fun _ => true) ht.isList ht2.isList rfl (by omega) (fun j h1 h2 => by simp at h2) X.prog X.w X.xe (EP X pins σ Q)
    exact z ⟨.bl true, H, I, rfl, k⟩
  | cons y ys =>
    have z := SeqAt.RcAt.lists_lengths (A := X.A) (s := s) ht.isList ht2.isList (by rw [List.size_toArray, ← hl]; rfl) (by omega) X.prog X.w X.xe (EP X pins σ Q)
    exact z ⟨.bl false, H, I, rfl, k⟩
end
theorem slT_use {K : PySem.W.Frag} {H : Hp} {Q : VK} {p : Addr} {xs : List V} {lo hi : Option Int} (h1 : H p = some (.tup xs)) (k : ∀ r H2, Same H H2 → H2 r = some (.tup (cutV xs lo hi)) → Q (.ref r) H2) : rSlA K (.ref p) lo hi H Q := by
  refine ⟨p, xs, rfl, SqT.of h1, fun z => ?_, fun _ r nr => k r _ (same_upd nr) upd_same⟩
  have e : cutV xs lo hi = xs := by
    unfold cutV
    rw [z.1, z.2, List.drop_zero, Nat.sub_zero, List.take_length]
  rw [e] at k
  exact k p H (Same.refl _) h1
theorem cutTo (xs : List V) (n : Nat) (h : n ≤ xs.length) : cutV xs none (some (n : Nat)) = xs.take n := by
  unfold cutV
  rw [HT.sIx_nat, HT.sIx_none, List.drop_zero, Nat.sub_zero, Nat.min_eq_left h]
theorem cutFrom (xs : List V) (n : Nat) (h : n ≤ xs.length) : cutV xs (some (n : Nat)) none = xs.drop n := by
  unfold cutV
  rw [HT.sIx_nat, HT.sIx_none, Nat.min_eq_left h]
  exact List.take_of_length_le (by rw [List.length_drop]; omega)
theorem cutBoth (xs : List V) (a b : Nat) (hb : b ≤ xs.length) (hab : a ≤ b) : cutV xs (some (a : Nat)) (some (b : Nat)) = (xs.drop a).take (b - a) := by
  unfold cutV
  rw [HT.sIx_nat, HT.sIx_nat, Nat.min_eq_left hb, Nat.min_eq_left (Nat.le_trans hab hb)]
end LK
/-! some of a list's items: l[::n] -/
namespace LK
open PySem PySem.Spec PyProof.Rows L2
theorem vals_some : ∀ {xs : List V} {its : List Value} {i : Nat}, Vals xs its → (xs[i]? = none ∧ its[i]? = none) ∨ ∃ x v, xs[i]? = some x ∧ its[i]? = some v ∧ RelV x v
  | _, _, _, .nil => .inl ⟨by simp, by simp⟩
  | _, _, 0, .cons r _ => .inr ⟨_, _, rfl, rfl, r⟩
  | _, _, i + 1, .cons _ t => by
    rw [List.getElem?_cons_succ, List.getElem?_cons_succ]
    exact vals_some (i := i) t
theorem vals_pick {xs : List V} {its : List Value} (r : Vals xs its) : ∀ (idx : List Nat), Vals (idx.filterMap (xs[·]?)) (idx.filterMap (its[·]?))
  | [] => .nil
  | i :: idx => by
    have t := vals_pick r idx
    rcases vals_some (i := i) r with ⟨h1, h2⟩ | ⟨x, v, h1, h2, h3⟩
    · rw [List.filterMap_cons, List.filterMap_cons, h1, h2]
      exact t
    · rw [List.filterMap_cons, List.filterMap_cons, h1, h2]
      exact .cons h3 t
section
variable {X : Cx}
/-- l[::n]: some of its items -/
def tStepL (K : PySem.W.Frag) (te : TE) : TE := fun σ H Q => te σ H fun x H1 => ∃ a xs, x = .ref a ∧ SqL K H1 a xs ∧ ∀ p ys, H1 p = none → (∀ y ∈ ys, y ∈ xs) → ys.length ≤ xs.length → Q (.ref p) (upd H1 p (.lst ys))
theorem pe_stepL {e : Expr} {te : TE} {n : Int} {k : Nat} {p1 p3 pos : Pos} (hn : 0 < n) (he : PE X e te) : PE X (.Subscript e (.Slice none none (some (.Constant (.int n) k p1)) p3) pos) (tStepL X.K te) := by
  refine ⟨fun pins s σ H Q I h => ?_⟩
  refine Subscript_ (thn (he.run pins s σ H _ I h) fun v s1 ⟨x, H1, I1, r1, q1⟩ => ?_)
  obtain ⟨a, xs, ex, hx, q⟩ := q1
  subst ex
  cases r1
  have hst : PO X (some (.Constant (.int n) k p1)) (tPart (tC (.int n))) := po_some pe_int
  refine wpAny_Slice (thn (po_none.run pins s1 σ H1 (fun o H2 => o = none ∧ H2 = H1) I1 ⟨rfl, rfl⟩) fun vl s2 ⟨l, H2, I2, pl, el, e2⟩ => ?_)
  subst el e2
  refine thn (po_none.run pins s2 σ H2 (fun o H3 => o = none ∧ H3 = H2) I2 ⟨rfl, rfl⟩) fun vu s3 ⟨u, H3, I3, pu, eu, e3⟩ => ?_
  subst eu e3
  refine thn (hst.run pins s3 σ H3 (fun o H4 => o = some n ∧ H4 = H3) I3 ⟨n, rfl, rfl, rfl⟩) fun vs s4 ⟨o, H4, I4, ps, eo, e4⟩ => ?_
  subst eo e4
  have I5 : Inv X pins σ H4 { s4 with heap := s4.heap.push { cls := .type "slice", data := .fields #[vl, vu, vs] } } := I4.kept (t' := s4.toks) fun b ob q => Heap.get?_push_of_some _ q
  obtain ⟨its, r, ht, hz⟩ := I5.list hx
  have hlen := r.length
  show wpAny (model X.prog X.w) X.A (subscriptTail e (.Slice none none (some (.Constant (.int n) k p1)) p3) (.ref a) (.ref s4.heap.objs.size)) (EP X pins σ Q) X.xe { s4 with heap := s4.heap.push { cls := .type "slice", data := .fields #[vl, vu, vs] } }
  refine tail_any (ops := [.ref a, .ref s4.heap.objs.size]) ht.isList.typeIs (PySem.slot_list_getitem.lookup) ?_ (by with_unfolding_all rfl)
  refine wpAny_getItem_list_slice ht.isList (Heap.IsSliceOf.new _ vl vu vs) pl pu ps (by intro z; cases z; omega) ?_ (by rw [List.size_toArray]; omega)
  have idl : (sliceRange (sliceBounds none none (some n) its.toArray.size).1 (sliceBounds none none (some n) its.toArray.size).2.1 (sliceBounds none none (some n) its.toArray.size).2.2).length ≤ its.length := by
    refine sliceRange_length_le _ _ _ _ (fun _ => ?_) (fun z => ?_)
    · show (0 : Int) ≤ (if n > 0 then 0 else _) ∧ (if n > 0 then ((its.toArray.size : Nat) : Int) else -1) ≤ _
      rw [if_pos hn, if_pos hn, List.size_toArray]
      exact ⟨Int.le_refl _, Int.le_refl _⟩
    · exact absurd hn z
  unfold slicePick
  generalize sliceRange (sliceBounds none none (some n) its.toArray.size).1 (sliceBounds none none (some n) its.toArray.size).2.1 (sliceBounds none none (some n) its.toArray.size).2.2 = idx at idl
  have e1 : (idx.filterMap (its.toArray[·]?)) = idx.filterMap (its[·]?) := by
    congr 1
    funext i
    simp
  rw [e1]
  have rv := vals_pick r idx
  have yl : (idx.filterMap (xs[·]?)).length ≤ xs.length := by
    have z := List.length_filterMap_le (fun i => xs[i]?) idx
    omega
  refine ⟨.ref _, _, I5.laid (t' := s4.toks) (o := .lst (idx.filterMap (xs[·]?))) (fun b ob q => Heap.get?_push_of_some _ q) (Nat.le_refl _) ?_, rfl, q _ _ (I5.hok.fresh (Nat.le_refl _)) (fun y hy => ?_) yl⟩
  · exact ⟨by omega, _, 0, rv, Heap.get?_push_size _ rfl⟩
  · obtain ⟨i, _, hi⟩ := List.mem_filterMap.mp hy
    exact List.mem_of_getElem? hi
end
end LK
namespace LK
open PySem PySem.Spec PyProof.Rows L2
/-- a comprehension without an if whose i-th item stands in a relation that outlives changes of the list under way alone -/
theorem lcoG {J : It} {n : Nat} {Im : Nat → V → Hp → Prop} (Rel : Nat → V → Hp → Prop) {g : TG} {te : TE} {vs : List Nat} {σ : L2.St} {H1 : Hp} {D : Addr} {Qd : Hp → Prop}
    (w : Walk J n Im H1 D) (hz : n ≤ sizeLine) (hD : H1 D = none)
    (keep : ∀ i v G G2 acc, Rel i v G → G D = some (.lst acc) → Sab D G G2 → Rel i v G2)
    (turn : ∀ (i : Nat) (x : V) (H : Hp) (R : V → Hp → Prop), i < n → Im i x H → (∃ acc, H D = some (.lst acc)) → Same H1 H → (∀ v H2, Same H H2 → Rel i v H2 → R v H2) →
      g x (wipe σ vs) H fun σ2 H2 => wipe σ2 vs = wipe σ vs ∧ te σ2 H2 R)
    (k : ∀ H us, Same H1 H → us.length = n → (∀ (i : Nat) (v : V), us[i]? = some v → Rel i v H) → H D = some (.lst us) → Qd H) :
    ∃ W : Nat → Nat → Hp → Prop, (∃ m, W 0 m (upd H1 D (.lst []))) ∧ ∀ i m H, W i m H → (J.stop i H ∧ Qd H) ∨ (J.go i H ∧ ∃ Nx : Hp → Prop, (∀ H2, Nx H2 → ∃ m2, m2 < m ∧ W (i + 1) m2 H2) ∧ ∀ x H2, J.yld i H x H2 → g x (wipe σ vs) H2 fun σ2 H3 => wipe σ2 vs = wipe σ vs ∧ tYes σ2 H3 fun b H4 =>
      if b = true then te σ2 H4 fun y H5 => ∃ acc, H5 D = some (.lst acc) ∧ acc.length < sizeLine ∧ Nx (upd H5 D (.lst (acc ++ [y]))) else Nx H4) := by
  refine ⟨fun i m H => m = n - i ∧ i ≤ n ∧ Sab D H1 H ∧ ∃ us, H D = some (.lst us) ∧ us.length = i ∧ ∀ (j : Nat) (v : V), us[j]? = some v → Rel j v H, ⟨n, rfl, Nat.zero_le _, fun b o hb e => by rw [upd_ne hb]; exact e, [], upd_same, rfl, fun j v h => by simp at h⟩, ?_⟩
  rintro i m H ⟨rfl, hi, sb, us, hh, hlen, hus⟩
  by_cases lt : i < n
  · refine .inr ⟨w.go i H lt sb, fun H2 => i + 1 ≤ n ∧ Sab D H1 H2 ∧ ∃ us, H2 D = some (.lst us) ∧ us.length = i + 1 ∧ ∀ (j : Nat) (v : V), us[j]? = some v → Rel j v H2, fun H2 z => ⟨n - (i + 1), by omega, rfl, z⟩, fun x H2 y => ?_⟩
    obtain ⟨s2, hx⟩ := w.yld i H x H2 sb lt y
    have sb2 : Sab D H1 H2 := sb.trans (sab_of s2)
    have hl2 := s2 _ _ hh
    refine turn i x H2 _ lt hx ⟨_, hl2⟩ (sb2.same (Same.refl _) hD) (fun v H3 s3 hv => ?_)
    have h3 := s3 _ _ hl2
    have sU : Sab D H3 (upd H3 D (.lst (us ++ [v]))) := Sab.refl.upd
    refine ⟨_, h3, by omega, lt, (sb2.trans (sab_of s3)).upd, us ++ [v], upd_same, by rw [List.length_append, hlen]; rfl, fun j u hj => ?_⟩
    by_cases hjl : j < us.length
    · rw [List.getElem?_append_left hjl] at hj
      have r1 := keep j u H H2 _ (hus j u hj) hh (sab_of s2)
      have r2 := keep j u H2 H3 _ r1 hl2 (sab_of s3)
      exact keep j u H3 _ _ r2 h3 sU
    · rw [List.getElem?_append_right (by omega)] at hj
      have ej : j - us.length = 0 := by
        cases hq : j - us.length with
        | zero => rfl
        | succ q =>
          rw [hq] at hj
          simp at hj
      rw [ej] at hj
      cases hj
      have ej2 : j = i := by omega
      rw [ej2]
      exact keep i v H3 _ _ hv h3 sU
  · have e : i = n := by omega
    subst e
    exact .inl ⟨w.stop H sb, k H us (sb.same (Same.refl _) hD) hlen hus hh⟩
theorem drall_by {H : Hp} : ∀ {us : List V} {ds : List PyData}, us.length = ds.length → (∀ (i : Nat) (v : V) (d : PyData), us[i]? = some v → ds[i]? = some d → Dr H v d) → DrAll H us ds
  | [], [], _, _ => .nil
  | u :: us, d :: ds, h, k => .cons (k 0 u d rfl rfl) (drall_by (Nat.succ.inj h) fun i v e h1 h2 => k (i + 1) v e h1 h2)
end LK
namespace LK
open PySem PySem.Spec PyProof.Rows L2
/-! ### comprehensions of two clauses with a test; a dict of lists -/
def kept (l : List (PyData × Bool)) : List PyData := l.filterMap fun p => if p.2 = true then some p.1 else none
theorem kept_app (a b : List (PyData × Bool)) : kept (a ++ b) = kept a ++ kept b := List.filterMap_append ..
theorem kept_one (p : PyData × Bool) : kept [p] = if p.2 = true then [p.1] else [] := by
  obtain ⟨d, c⟩ := p
  cases c <;> rfl
theorem kept_len (l : List (PyData × Bool)) : (kept l).length ≤ l.length := List.length_filterMap_le ..
theorem kept_flat : ∀ {l : List (PyData × Bool)}, flatA (l.map (·.1)) = true → flatA (kept l) = true
  | [], _ => rfl
  | (d, c) :: l, h => by
    obtain ⟨h1, h2⟩ := Bool.and_eq_true_iff.mp (show (flatD d && flatA (l.map (·.1))) = true from h)
    have e : kept ((d, c) :: l) = kept [(d, c)] ++ kept l := kept_app [(d, c)] l
    rw [e, kept_one]
    cases c with
    | false => exact kept_flat h2
    | true =>
      show (flatD d && flatA (kept l)) = true
      rw [h1, kept_flat h2]
      rfl
/-- .. with a test at the inner clause: `fs` are the data that a turn may give, those taken are kept -/
theorem lco2F {J : It} {n : Nat} {Im : Nat → V → Hp → Prop} (outss : List (List (PyData × Bool))) {g : TG} {wi1 : TI} {g1 : TG} {tt1 : TT} {te : TE} {vs vs1 : List Nat} {σ : L2.St} {H1 : Hp} {D : Addr} {Qd : Hp → Prop}
    (w : Walk J n Im H1 D) (hl : outss.length = n) (hf : flatA (outss.flatten.map (·.1)) = true) (hz : outss.flatten.length ≤ sizeLine) (hD : H1 D = none)
    (turn : ∀ (i : Nat) (x : V) (os : List (PyData × Bool)) (H : Hp) (K0 : L2.St → L2.It → Hp → Prop), i < n → Im i x H → outss[i]? = some os → Same H1 H → (∃ acc, H D = some (.lst acc)) →
      (∀ σ2 H4 J1 (It1 : Nat → V → Hp → Prop), Same H H4 → Walk J1 os.length It1 H4 D →
        (∀ (j : Nat) (y : V) (d : PyData) (c : Bool) (H5 : Hp) (R : V → Hp → Prop) (R0 : Hp → Prop), j < os.length → It1 j y H5 → os[j]? = some (d, c) → Sab D H4 H5 → (∃ acc, H5 D = some (.lst acc)) → (∀ v H6, c = true → Same H5 H6 → Dr H6 v d → R v H6) → (∀ H6, c = false → Same H5 H6 → R0 H6) → g1 y (wipe σ2 vs1) H5 fun σ3 H6 => wipe σ3 vs1 = wipe σ2 vs1 ∧ tt1 σ3 H6 fun b H7 => if b = true then te σ3 H7 R else R0 H7) → K0 σ2 J1 H4) →
      g x (wipe σ vs) H fun σ2 H2 => wipe σ2 vs = wipe σ vs ∧ wi1 σ2 H2 fun J1 H4 => K0 σ2 J1 H4)
    (k : ∀ H us, Same H1 H → DrAll H us (kept outss.flatten) → H D = some (.lst us) → Qd H) :
    ∃ W : Nat → Nat → Hp → Prop, (∃ m, W 0 m (upd H1 D (.lst []))) ∧ ∀ i m H, W i m H →
  (J.stop i H ∧ Qd H) ∨ (J.go i H ∧ ∃ Nx : Hp → Prop, (∀ H2, Nx H2 → ∃ m2, m2 < m ∧ W (i + 1) m2 H2) ∧ ∀ x H2, J.yld i H x H2 → g x (wipe σ vs) H2 fun σ2 H2 => wipe σ2 vs = wipe σ vs ∧ tYes σ2 H2 fun b H3 =>
    if b = true then wi1 σ2 H3 fun J1 H4 => ∃ W1 : Nat → Nat → Hp → Prop, (∃ m, W1 0 m H4) ∧ ∀ j k H, W1 j k H →
      (J1.stop j H ∧ Nx H) ∨ (J1.go j H ∧ ∃ Nx1 : Hp → Prop, (∀ H2, Nx1 H2 → ∃ k2, k2 < k ∧ W1 (j + 1) k2 H2) ∧ ∀ x H2, J1.yld j H x H2 → g1 x (wipe σ2 vs1) H2 fun σ3 H5 => wipe σ3 vs1 = wipe σ2 vs1 ∧ tt1 σ3 H5 fun b H6 =>
        if b = true then te σ3 H6 fun y H7 => ∃ acc, H7 D = some (.lst acc) ∧ acc.length < sizeLine ∧ Nx1 (upd H7 D (.lst (acc ++ [y]))) else Nx1 H6)
    else Nx H3) := by
  refine ⟨fun i m H => m = n - i ∧ i ≤ n ∧ Sab D H1 H ∧ ∃ us, H D = some (.lst us) ∧ DrAll H us (kept (outss.take i).flatten), ⟨n, rfl, Nat.zero_le _, fun b o hb e => by rw [upd_ne hb]; exact e, [], upd_same, .nil⟩, ?_⟩
  rintro i m H ⟨rfl, hi, sb, us, hh, hus⟩
  by_cases lt : i < n
  · have lo : i < outss.length := by omega
    refine .inr ⟨w.go i H lt sb, fun H2 => i + 1 ≤ n ∧ Sab D H1 H2 ∧ ∃ us, H2 D = some (.lst us) ∧ DrAll H2 us (kept (outss.take (i + 1)).flatten), fun H2 z => ⟨n - (i + 1), by omega, rfl, z⟩, fun x H2 y => ?_⟩
    obtain ⟨s2, hx⟩ := w.yld i H x H2 sb lt y
    have sb2 : Sab D H1 H2 := sb.trans (sab_of s2)
    have hl2 := s2 _ _ hh
    have ho := List.getElem?_eq_getElem lo
    obtain ⟨rest, hrest⟩ := flatK_pre ho
    have hrl := congrArg List.length hrest
    rw [List.length_append, List.length_append] at hrl
    have hff : ∀ j, flatA (kept ((outss.take i).flatten ++ (outss[i]).take j)) = true := fun j => kept_flat (by
      rw [hrest, List.map_append, List.map_append, flatA_app, flatA_app, Bool.and_eq_true, Bool.and_eq_true] at hf
      rw [List.map_append, flatA_app, hf.1.1, List.map_take, flatA_take hf.1.2]
      rfl)
    refine turn i x _ H2 _ lt hx ho (sb2.same (Same.refl _) hD) ⟨_, hl2⟩ (fun σ2 H4 J1 It1 s4 w1 tn => ?_)
    have sb4 : Sab D H1 H4 := sb2.trans (sab_of s4)
    refine ⟨fun j k H => k = (outss[i]).length - j ∧ j ≤ (outss[i]).length ∧ Sab D H4 H ∧ ∃ us, H D = some (.lst us) ∧ DrAll H us (kept ((outss.take i).flatten ++ (outss[i]).take j)), ⟨_, rfl, Nat.zero_le _, Sab.refl, us, s4 _ _ hl2, by rw [List.take_zero, List.append_nil]; exact (hus.mono s2).mono s4⟩, ?_⟩
    rintro j k H5 ⟨rfl, hj, sb5, us5, hh5, hus5⟩
    by_cases lj : j < (outss[i]).length
    · refine .inr ⟨w1.go j H5 lj sb5, fun H6 => j + 1 ≤ (outss[i]).length ∧ Sab D H4 H6 ∧ ∃ us, H6 D = some (.lst us) ∧ DrAll H6 us (kept ((outss.take i).flatten ++ (outss[i]).take (j + 1))), fun H6 z => ⟨(outss[i]).length - (j + 1), by omega, rfl, z⟩, fun y H6 yy => ?_⟩
      obtain ⟨s6, hy⟩ := w1.yld j H5 y H6 sb5 lj yy
      have sb6 : Sab D H4 H6 := sb5.trans (sab_of s6)
      have hl6 := s6 _ _ hh5
      have hj1 := List.getElem?_eq_getElem lj
      have hul := hus5.len
      have hkl := kept_len ((outss.take i).flatten ++ (outss[i]).take j)
      rw [List.length_append, List.length_take] at hkl
      have e1 : (outss.take i).flatten ++ (outss[i]).take (j + 1) = ((outss.take i).flatten ++ (outss[i]).take j) ++ [(outss[i])[j]] := by
        rw [List.take_add_one, hj1, List.append_assoc]
        rfl
      refine tn j y ((outss[i])[j]).1 ((outss[i])[j]).2 H6 _ _ lj hy hj1 sb6 ⟨_, hl6⟩ (fun v H7 hc s7 hv => ?_) (fun H7 hc s7 => ?_)
      · have h7 := s7 _ _ hl6
        have hus7 := (hus5.mono s6).mono s7
        refine ⟨_, h7, ?_, lj, (sb6.trans (sab_of s7)).upd, us5 ++ [v], upd_same, ?_⟩
        · have z1 : (outss.take i).flatten.length + (outss[i]).length ≤ sizeLine := by omega
          omega
        · have st := sab_tups (H1 := upd H7 D (.lst (us5 ++ [v]))) h7 Sab.refl.upd
          have f1 := hff (j + 1)
          rw [e1, kept_app, kept_one, hc, if_pos rfl] at f1 ⊢
          exact (hus7.snoc hv).tups st f1
      · refine ⟨lj, sb6.trans (sab_of s7), us5, s7 _ _ hl6, ?_⟩
        rw [e1, kept_app, kept_one, hc, if_neg (by decide), List.append_nil]
        exact (hus5.mono s6).mono s7
    · have e : j = (outss[i]).length := by omega
      subst e
      rw [List.take_length] at hus5
      exact .inl ⟨w1.stop H5 sb5, lt, sb4.trans sb5, us5, hh5, by rw [flatK ho]; exact hus5⟩
  · have e : i = n := by omega
    subst e
    rw [List.take_of_length_le (by omega)] at hus
    exact .inl ⟨w.stop H sb, k H us (sb.same (Same.refl _) hD) hus hh⟩
/-- {k: v for ..}: each value a list of its own -/
theorem dcoL {J : It} {n : Nat} {Im : Nat → V → Hp → Prop} (outs : List (Str × List V)) {g : TG} {tk tv : TE} {vs : List Nat} {σ : L2.St} {H1 : Hp} {D : Addr} {Qd : Hp → Prop}
    (w : Walk J n Im H1 D) (hl : outs.length = n) (hz : n ≤ sizeLine) (hN : (outs.map (·.1)).Nodup) (hD : H1 D = none)
    (turn : ∀ (i : Nat) (x : V) (k : Str) (os : List V) (H : Hp) (R : V → V → Hp → Prop), i < n → Im i x H → outs[i]? = some (k, os) → Same H1 H → (∀ p H2, Same H H2 → H2 p = some (.lst os) → R (.str k) (.ref p) H2) →
      g x (wipe σ vs) H fun σ2 H2 => wipe σ2 vs = wipe σ vs ∧ tk σ2 H2 fun y H3 => tv σ2 H3 (R y))
    (k : ∀ H (es : List (Str × V)), Same H1 H → es.map (·.1) = outs.map (·.1) → (∀ (i : Nat) e, es[i]? = some e → ∃ p os, outs[i]? = some (e.1, os) ∧ e.2 = .ref p ∧ H p = some (.lst os)) → H D = some (.dK (KVs es)) → Qd H) :
    ∃ W : Nat → Nat → Hp → Prop, (∃ m, W 0 m (upd H1 D (.dK []))) ∧ ∀ i m H, W i m H →
  (J.stop i H ∧ Qd H) ∨ (J.go i H ∧ ∃ Nx : Hp → Prop, (∀ H2, Nx H2 → ∃ k, k < m ∧ W (i + 1) k H2) ∧ ∀ x H2, J.yld i H x H2 → g x (wipe σ vs) H2 fun σ2 H3 => wipe σ2 vs = wipe σ vs ∧ tYes σ2 H3 fun b H4 =>
    if b = true then tk σ2 H4 fun y H5 => tv σ2 H5 fun z H6 => ∃ kvs k, y = kV k ∧ H6 D = some (.dK kvs) ∧ kvs.length < sizeLine ∧ Nx (upd H6 D (.dK (putK kvs k z))) else Nx H4) := by
  let G : Nat → Hp → Prop := fun i H => ∃ es : List (Str × V), H D = some (.dK (KVs es)) ∧ es.map (·.1) = (outs.take i).map (·.1) ∧ ∀ (j : Nat) e, es[j]? = some e → ∃ p os, outs[j]? = some (e.1, os) ∧ e.2 = .ref p ∧ H p = some (.lst os)
  refine ⟨fun i m H => m = n - i ∧ i ≤ n ∧ Sab D H1 H ∧ G i H, ⟨n, rfl, Nat.zero_le _, fun b o hb e => by rw [upd_ne hb]; exact e, [], upd_same, rfl, fun j e h => by simp at h⟩, ?_⟩
  rintro i m H ⟨rfl, hi, sb, es, hh, he, hv⟩
  have hel : es.length = i := by
    have z := congrArg List.length he
    rw [List.length_map, List.length_map, List.length_take] at z
    omega
  by_cases lt : i < n
  · have lo : i < outs.length := by omega
    refine .inr ⟨w.go i H lt sb, fun H2 => i + 1 ≤ n ∧ Sab D H1 H2 ∧ G (i + 1) H2, fun H2 z => ⟨n - (i + 1), by omega, rfl, z⟩, fun x H2 y => ?_⟩
    obtain ⟨s2, hx⟩ := w.yld i H x H2 sb lt y
    have sb2 : Sab D H1 H2 := sb.trans (sab_of s2)
    have hl2 := s2 _ _ hh
    have ho : outs[i]? = some ((outs[i]).1, (outs[i]).2) := List.getElem?_eq_getElem lo
    refine turn i x (outs[i]).1 (outs[i]).2 H2 _ lt hx ho (sb2.same (Same.refl _) hD) (fun p H3 s3 hp => ?_)
    have h3 := s3 _ _ hl2
    have e1 : (outs.take (i + 1)).map (·.1) = es.map (·.1) ++ [(outs[i]).1] := by
      rw [he, List.take_add_one, List.getElem?_eq_getElem lo, List.map_append]
      rfl
    have hnew : (outs[i]).1 ∉ es.map (·.1) := fun hm => by
      have z : ((outs.take (i + 1)).map (·.1)).Nodup := by
        rw [List.map_take]
        exact hN.sublist (List.take_sublist _ _)
      rw [e1, List.nodup_append] at z
      exact z.2.2 _ hm _ (List.mem_singleton.mpr rfl) rfl
    refine ⟨_, Sum.inr (outs[i]).1, rfl, h3, ?_, lt, (sb2.trans (sab_of s3)).upd, es ++ [((outs[i]).1, .ref p)], ?_, ?_, fun j e hj => ?_⟩
    · unfold KVs
      rw [List.length_map]
      omega
    · rw [upd_same, putK_new hnew]
    · rw [e1, List.map_append]
      rfl
    · have keep : ∀ (q : Addr) (os : List V), H3 q = some (.lst os) → upd H3 D (.dK (putK (KVs es) (Sum.inr (outs[i]).1) (.ref p))) q = some (.lst os) := fun q os hq => by
        rw [upd_ne (fun z => by rw [z, h3] at hq; cases hq)]
        exact hq
      by_cases hje : j < es.length
      · rw [List.getElem?_append_left hje] at hj
        obtain ⟨q, os, k1, k2, k3⟩ := hv j e hj
        exact ⟨q, os, k1, k2, keep q os (s3 _ _ (s2 _ _ k3))⟩
      · have hjl := (List.getElem?_eq_some_iff.mp hj).1
        rw [List.length_append, List.length_singleton] at hjl
        have ej : j = i := by omega
        rw [List.getElem?_append_right (by omega), ej, hel, Nat.sub_self] at hj
        cases hj
        subst ej
        exact ⟨p, _, ho, rfl, keep p _ hp⟩
  · have e : i = n := by omega
    subst e
    rw [List.take_of_length_le (by omega)] at he
    exact .inl ⟨w.stop H sb, k H es (sb.same (Same.refl _) hD) he hv hh⟩
end LK
namespace LK
open PySem PySem.Spec PyProof.Rows L2
section
variable {X : Cx}
/-- x in ys, x not in ys: any data in a row of any data -/
def rInG (neg : Bool) : R2 := fun x y H Q => ∃ (d : PyData) (ds : List PyData), Dr H x d ∧ (Dr H y (.tuple ds) ∨ Dr H y (.list ds)) ∧ PyData.canLayAll0 ds = true ∧ d.canLay0 = true ∧ d.depth ≤ 20 ∧ Q (.bl (if neg then !(ds.any fun y => PyData.eqv y d) else ds.any fun y => PyData.eqv y d)) H
theorem op_inG (hu : X.A.units + 64 < cLine) : OpR X (compareOp .In) (rInG false) := by
  intro pins s σ H x y v u Q I rx ry h
  obtain ⟨d, ds, hd, hy, hc, hl, hdp, q⟩ := h
  obtain ⟨_, ra, _⟩ := Dr.reads I d x v hd rx
  have room : X.A.units + 1 + min (PyData.depthAll ds) d.depth < cLine := by omega
  rcases hy with hy | hy
  · obtain ⟨_, rb, _⟩ := Dr.reads I _ y u hy ry
    exact SeqAt.in_tuple_reads rb ra hc hl room ⟨.bl (ds.any fun y => PyData.eqv y d), H, I, rfl, q⟩
  · obtain ⟨_, rb, _⟩ := Dr.reads I _ y u hy ry
    exact SeqAt.in_list_reads rb ra hc hl room ⟨.bl (ds.any fun y => PyData.eqv y d), H, I, rfl, q⟩
theorem op_notInG (hu : X.A.units + 64 < cLine) : OpR X (compareOp .NotIn) (rInG true) := by
  intro pins s σ H x y v u Q I rx ry h
  obtain ⟨d, ds, hd, hy, hc, hl, hdp, q⟩ := h
  obtain ⟨_, ra, _⟩ := Dr.reads I d x v hd rx
  have room : X.A.units + 1 + min (PyData.depthAll ds) d.depth < cLine := by omega
  rcases hy with hy | hy
  · obtain ⟨_, rb, _⟩ := Dr.reads I _ y u hy ry
    exact SeqAt.notIn_tuple_reads rb ra hc hl room ⟨.bl (!(ds.any fun y => PyData.eqv y d)), H, I, rfl, q⟩
  · obtain ⟨_, rb, _⟩ := Dr.reads I _ y u hy ry
    exact SeqAt.notIn_list_reads rb ra hc hl room ⟨.bl (!(ds.any fun y => PyData.eqv y d)), H, I, rfl, q⟩
end
/-- a comprehension with an if whose i-th item makes the data outs[i], or nothing -/
theorem lcoF {J : It} {n : Nat} {Im : Nat → V → Hp → Prop} (outs : List (Option PyData)) {g : TG} {tt : TT} {te : TE} {vs : List Nat} {σ : L2.St} {H1 : Hp} {D : Addr} {Qd : Hp → Prop}
    (w : Walk J n Im H1 D) (hl : outs.length = n) (hf : flatA (outs.filterMap id) = true) (hz : n ≤ sizeLine) (hD : H1 D = none)
    (turn : ∀ (i : Nat) (x : V) (o : Option PyData) (H : Hp) (R : V → Hp → Prop) (R0 : Hp → Prop), i < n → Im i x H → outs[i]? = some o → Same H1 H → (∀ d v H2, o = some d → Same H H2 → Dr H2 v d → R v H2) → (∀ H2, o = none → Same H H2 → R0 H2) →
      g x (wipe σ vs) H fun σ2 H2 => wipe σ2 vs = wipe σ vs ∧ tt σ2 H2 fun b H3 => if b = true then te σ2 H3 R else R0 H3)
    (k : ∀ H us, Same H1 H → DrAll H us (outs.filterMap id) → H D = some (.lst us) → Qd H) :
    ∃ W : Nat → Nat → Hp → Prop, (∃ m, W 0 m (upd H1 D (.lst []))) ∧ ∀ i m H, W i m H → (J.stop i H ∧ Qd H) ∨ (J.go i H ∧ ∃ Nx : Hp → Prop, (∀ H2, Nx H2 → ∃ m2, m2 < m ∧ W (i + 1) m2 H2) ∧ ∀ x H2, J.yld i H x H2 → g x (wipe σ vs) H2 fun σ2 H3 => wipe σ2 vs = wipe σ vs ∧ tt σ2 H3 fun b H4 =>
      if b = true then te σ2 H4 fun y H5 => ∃ acc, H5 D = some (.lst acc) ∧ acc.length < sizeLine ∧ Nx (upd H5 D (.lst (acc ++ [y]))) else Nx H4) := by
  refine ⟨fun i m H => m = n - i ∧ i ≤ n ∧ Sab D H1 H ∧ ∃ us, H D = some (.lst us) ∧ DrAll H us ((outs.take i).filterMap id), ⟨n, rfl, Nat.zero_le _, fun b o hb e => by rw [upd_ne hb]; exact e, [], upd_same, .nil⟩, ?_⟩
  rintro i m H ⟨rfl, hi, sb, us, hh, hus⟩
  by_cases lt : i < n
  · have lo : i < outs.length := by omega
    refine .inr ⟨w.go i H lt sb, fun H2 => i + 1 ≤ n ∧ Sab D H1 H2 ∧ ∃ us, H2 D = some (.lst us) ∧ DrAll H2 us ((outs.take (i + 1)).filterMap id), fun H2 z => ⟨n - (i + 1), by omega, rfl, z⟩, fun x H2 y => ?_⟩
    obtain ⟨s2, hx⟩ := w.yld i H x H2 sb lt y
    have sb2 : Sab D H1 H2 := sb.trans (sab_of s2)
    have hl2 := s2 _ _ hh
    have ho := List.getElem?_eq_getElem lo
    have e0 : outs.take (i + 1) = outs.take i ++ [outs[i]] := by
      rw [List.take_add_one, ho]
      rfl
    refine turn i x _ H2 _ _ lt hx ho (sb2.same (Same.refl _) hD) (fun d v H3 ed s3 hv => ?_) (fun H3 en s3 => ?_)
    · have h3 := s3 _ _ hl2
      have hus3 := (hus.mono s2).mono s3
      have e1 : (outs.take (i + 1)).filterMap id = (outs.take i).filterMap id ++ [d] := by
        rw [e0, List.filterMap_append, ed]
        rfl
      refine ⟨_, h3, ?_, lt, (sb2.trans (sab_of s3)).upd, us ++ [v], upd_same, ?_⟩
      · have z := hus.len
        have z2 := List.length_filterMap_le id (outs.take i)
        rw [List.length_take] at z2
        omega
      · have st := sab_tups (H1 := upd H3 D (.lst (us ++ [v]))) h3 Sab.refl.upd
        have f1 : flatA ((outs.take (i + 1)).filterMap id) = true := by
          have e2 : outs.filterMap id = (outs.take (i + 1)).filterMap id ++ (outs.drop (i + 1)).filterMap id := by
            rw [← List.filterMap_append, List.take_append_drop]
          rw [e2] at hf
          have gen : ∀ a b : List PyData, flatA (a ++ b) = true → flatA a = true := by
            intro a
            induction a with
            | nil => exact fun _ _ => rfl
            | cons x a ih =>
              intro b h
              obtain ⟨h1, h2⟩ := Bool.and_eq_true_iff.mp (show (flatD x && flatA (a ++ b)) = true from h)
              show (flatD x && flatA a) = true
              rw [h1, ih b h2]
              rfl
          exact gen _ _ hf
        rw [e1] at f1 ⊢
        exact (hus3.snoc hv).tups st f1
    · have e1 : (outs.take (i + 1)).filterMap id = (outs.take i).filterMap id := by
        rw [e0, List.filterMap_append, en]
        exact List.append_nil _
      exact ⟨lt, sb2.trans (sab_of s3), us, s3 _ _ hl2, by rw [e1]; exact (hus.mono s2).mono s3⟩
  · have e : i = n := by omega
    subst e
    rw [List.take_of_length_le (by omega)] at hus
    exact .inl ⟨w.stop H sb, k H us (sb.same (Same.refl _) hD) hus hh⟩
/-- d[k] as a target among others -/
def rSetD : V → V → V → Hp → (Hp → Prop) → Prop := fun o i v H Q => ∃ a H', o = .ref a ∧ DPut H a i v H' ∧ Q H'
theorem set_dput {X : Cx} (hu : X.A.units + 1 < cLine) : PSet X rSetD := by
  intro pins s σ H o i v ov iv u Q I ro ri rv h
  obtain ⟨a, H', rfl, g, q⟩ := h
  cases ro
  exact d_setItem hu I g ri rv fun s' I' => ⟨H', I', q⟩
/-- the truth of a value, in a comprehension -/
def tTruK (K : PySem.W.Frag) (ta : TE) : TT := fun σ H Q => ta σ H fun x H' => ∃ k, TruV K x H' k ∧ Q k H'
/-- a dict comprehension of one clause, with an if: keys of texts, each value in a relation that outlives changes of the dict under way alone -/
theorem dcoG {J : It} {n : Nat} {Im : Nat → V → Hp → Prop} (keys : List (Option Str)) (Rel : Str → V → Hp → Prop) {g : TG} {tt : TT} {tk tv : TE} {vs : List Nat} {σ : L2.St} {H1 : Hp} {D : Addr} {Qd : Hp → Prop}
    (w : Walk J n Im H1 D) (hl : keys.length = n) (hz : n ≤ sizeLine) (hN : (keys.filterMap id).Nodup) (hD : H1 D = none)
    (keep : ∀ k v G G2 es, Rel k v G → G D = some (.dK es) → Sab D G G2 → Rel k v G2)
    (turn : ∀ (i : Nat) (x : V) (o : Option Str) (H : Hp) (R : V → V → Hp → Prop) (R0 : Hp → Prop), i < n → Im i x H → keys[i]? = some o → (∃ es, H D = some (.dK es)) → Same H1 H → (∀ k v H2, o = some k → Same H H2 → Rel k v H2 → R (.str k) v H2) → (∀ H2, o = none → Same H H2 → R0 H2) →
      g x (wipe σ vs) H fun σ2 H2 => wipe σ2 vs = wipe σ vs ∧ tt σ2 H2 fun b H3 => if b = true then tk σ2 H3 fun y H4 => tv σ2 H4 (R y) else R0 H3)
    (k : ∀ H (es : List (Str × V)), Same H1 H → es.map (·.1) = keys.filterMap id → (∀ e ∈ es, Rel e.1 e.2 H) → H D = some (.dK (KVs es)) → Qd H) :
    ∃ W : Nat → Nat → Hp → Prop, (∃ m, W 0 m (upd H1 D (.dK []))) ∧ ∀ i m H, W i m H →
  (J.stop i H ∧ Qd H) ∨ (J.go i H ∧ ∃ Nx : Hp → Prop, (∀ H2, Nx H2 → ∃ k, k < m ∧ W (i + 1) k H2) ∧ ∀ x H2, J.yld i H x H2 → g x (wipe σ vs) H2 fun σ2 H3 => wipe σ2 vs = wipe σ vs ∧ tt σ2 H3 fun b H4 =>
    if b = true then tk σ2 H4 fun y H5 => tv σ2 H5 fun z H6 => ∃ kvs k, y = kV k ∧ H6 D = some (.dK kvs) ∧ kvs.length < sizeLine ∧ Nx (upd H6 D (.dK (putK kvs k z))) else Nx H4) := by
  let G : Nat → Hp → Prop := fun i H => ∃ es : List (Str × V), H D = some (.dK (KVs es)) ∧ es.map (·.1) = (keys.take i).filterMap id ∧ ∀ e ∈ es, Rel e.1 e.2 H
  refine ⟨fun i m H => m = n - i ∧ i ≤ n ∧ Sab D H1 H ∧ G i H, ⟨n, rfl, Nat.zero_le _, fun b o hb e => by rw [upd_ne hb]; exact e, [], upd_same, rfl, fun e h => (nomatch h)⟩, ?_⟩
  rintro i m H ⟨rfl, hi, sb, es, hh, he, hv⟩
  have hel : es.length ≤ i := by
    have z := congrArg List.length he
    rw [List.length_map] at z
    have z2 := List.length_filterMap_le id (keys.take i)
    rw [List.length_take] at z2
    omega
  by_cases lt : i < n
  · have lo : i < keys.length := by omega
    refine .inr ⟨w.go i H lt sb, fun H2 => i + 1 ≤ n ∧ Sab D H1 H2 ∧ G (i + 1) H2, fun H2 z => ⟨n - (i + 1), by omega, rfl, z⟩, fun x H2 y => ?_⟩
    obtain ⟨s2, hx⟩ := w.yld i H x H2 sb lt y
    have sb2 : Sab D H1 H2 := sb.trans (sab_of s2)
    have hl2 := s2 _ _ hh
    have ho : keys[i]? = some keys[i] := List.getElem?_eq_getElem lo
    have e0 : keys.take (i + 1) = keys.take i ++ [keys[i]] := by
      rw [List.take_add_one, ho]
      rfl
    have hv2 : ∀ e ∈ es, Rel e.1 e.2 H2 := fun e hm => keep _ _ _ _ _ (hv e hm) hh (sab_of s2)
    refine turn i x keys[i] H2 _ _ lt hx ho ⟨_, hl2⟩ (sb2.same (Same.refl _) hD) (fun k v H3 ek s3 hr => ?_) (fun H3 en s3 => ?_)
    · have h3 := s3 _ _ hl2
      have e1 : (keys.take (i + 1)).filterMap id = es.map (·.1) ++ [k] := by
        rw [he, e0, List.filterMap_append, ek]
        rfl
      have hnew : k ∉ es.map (·.1) := fun hm => by
        have z : ((keys.take (i + 1)).filterMap id).Nodup := hN.sublist ((List.take_sublist _ _).filterMap _)
        rw [e1, List.nodup_append] at z
        exact z.2.2 _ hm _ (List.mem_singleton.mpr rfl) rfl
      have sU : Sab D H3 (upd H3 D (.dK (putK (KVs es) (Sum.inr k) v))) := Sab.refl.upd
      refine ⟨_, Sum.inr k, rfl, h3, ?_, lt, (sb2.trans (sab_of s3)).upd, es ++ [(k, v)], ?_, ?_, fun e hm => ?_⟩
      · unfold KVs
        rw [List.length_map]
        omega
      · rw [upd_same, putK_new hnew]
      · rw [e1, List.map_append]
        rfl
      · rcases List.mem_append.mp hm with hm | hm
        · exact keep _ _ _ _ _ (keep _ _ _ _ _ (hv2 e hm) hl2 (sab_of s3)) h3 sU
        · rw [List.mem_singleton.mp hm]
          exact keep _ _ _ _ _ hr h3 sU
    · have h3 := s3 _ _ hl2
      have e1 : (keys.take (i + 1)).filterMap id = es.map (·.1) := by
        rw [he, e0, List.filterMap_append, en]
        exact List.append_nil _
      exact ⟨lt, sb2.trans (sab_of s3), es, h3, e1.symm, fun e hm => keep _ _ _ _ _ (hv2 e hm) hl2 (sab_of s3)⟩
  · have e : i = n := by omega
    subst e
    rw [List.take_of_length_le (by omega)] at he
    exact .inl ⟨w.stop H sb, k H es (sb.same (Same.refl _) hD) he hv hh⟩
/-- a loop over the names of a locked dict -/
theorem for_keys {d : Addr} {o : Obj} {es : List (Str × V)} {g : TG} {tb : TS} {D : Ends} {σ : L2.St} {H : Hp} (Pv : Nat → L2.St → Hp → Prop) (h0 : Pv 0 σ H) (hl : ∀ i σ H, i ≤ es.length → Pv i σ H → H d = some (.frz o (.dK (KVs es))))
    (hs : ∀ i e σ H, es[i]? = some e → Pv i σ H → g (.str e.1) σ H fun σ2 H2 => tb { D with nx := Pv (i + 1), ct := Pv (i + 1), bk := D.nx } σ2 H2) (hd : ∀ σ H, Pv es.length σ H → D.nx σ H) :
    tFor (fun _ H0 R => R (Itk d o (KVs es)) H0) g tb D σ H := by
  have el : (KVs es).length = es.length := by
    unfold KVs
    rw [List.length_map]
  refine ⟨fun i m σ H => m = es.length - i ∧ i ≤ es.length ∧ Pv i σ H, ⟨es.length, by simp, Nat.zero_le _, h0⟩, ?_⟩
  rintro i m σ H ⟨rfl, hi, p⟩
  have q := hl i σ H hi p
  by_cases hlt : i < es.length
  · refine .inr ⟨⟨q, by rw [el]; exact hlt⟩, Pv (i + 1), fun σ1 H1 p1 => ⟨es.length - (i + 1), by omega, rfl, hlt, p1⟩, fun x H1 y => ?_⟩
    obtain ⟨rfl, k, v, e, rfl⟩ := y
    unfold KVs at e
    rw [List.getElem?_map] at e
    cases he : es[i]? with
    | none =>
      rw [he] at e
      cases e
    | some e0 =>
      rw [he] at e
      cases e
      exact hs i e0 σ _ he p
  · have e : i = es.length := by omega
    subst e
    exact .inl ⟨⟨q, by rw [el]; exact Nat.le_refl _⟩, hd σ H p⟩
end LK
/-! l[:0:-1]; l.index(x) of data -/
namespace LK
open PySem PySem.Spec PyProof.Rows L2
theorem pick_all {α : Type} : ∀ zs : List α, (List.range zs.length).filterMap (fun k => zs[k]?) = zs
  | [] => rfl
  | z :: zs => by
    have ih := pick_all zs
    rw [List.length_cons, List.range_succ_eq_map, List.filterMap_cons, List.filterMap_map]
    show z :: (List.range zs.length).filterMap ((fun k => (z :: zs)[k]?) ∘ Nat.succ) = _
    congr 1
theorem pick_tail {α : Type} (x : α) (ys : List α) : (List.range ys.length).filterMap (fun k => (x :: ys)[ys.length - k]?) = ys.reverse := by
  have h := pick_all ys.reverse
  rw [List.length_reverse] at h
  refine Eq.trans ?_ h
  have gen : ∀ l : List Nat, (∀ k ∈ l, k < ys.length) → l.filterMap (fun k => (x :: ys)[ys.length - k]?) = l.filterMap (fun k => ys.reverse[k]?) := by
    intro l
    induction l with
    | nil => intro _; rfl
    | cons k l ih =>
      intro hl
      have lt := hl k List.mem_cons_self
      have e : (x :: ys)[ys.length - k]? = ys.reverse[k]? := by
        rw [List.getElem?_reverse lt, show ys.length - k = (ys.length - 1 - k) + 1 by omega, List.getElem?_cons_succ]
      rw [List.filterMap_cons, List.filterMap_cons, e, ih fun j hj => hl j (List.mem_cons_of_mem _ hj)]
  exact gen _ fun k hk => List.mem_range.mp hk
section
variable {X : Cx}
/-- l[:0:-1], l not empty -/
def tTailR (K : PySem.W.Frag) (te : TE) : TE := fun σ H Q => te σ H fun x H1 => ∃ a y ys, x = .ref a ∧ SqL K H1 a (y :: ys) ∧ ∀ p, H1 p = none → Q (.ref p) (upd H1 p (.lst ys.reverse))
theorem pe_tailR {e : Expr} {te : TE} {k0 k1 : Nat} {p0 p1 p2 p3 pos : Pos} (he : PE X e te) : PE X (.Subscript e (.Slice none (some (.Constant (.int 0) k0 p0)) (some (.UnaryOp .USub (.Constant (.int 1) k1 p1) p2)) p3) pos) (tTailR X.K te) := by
  refine ⟨fun pins s σ H Q I h => ?_⟩
  refine Subscript_ (thn (he.run pins s σ H _ I h) fun v s1 ⟨x, H1, I1, r1, q1⟩ => ?_)
  obtain ⟨a, y, ys, ex, hx, q⟩ := q1
  subst ex
  cases r1
  have hup : PO X (some (.Constant (.int 0) k0 p0)) (tPart (tC (.int 0))) := po_some pe_int
  have hst : PO X (some (.UnaryOp .USub (.Constant (.int 1) k1 p1) p2)) (tPart (tUn (rU fun i => .int (-i)) (tC (.int 1)))) := po_some (pe_un un_neg pe_int)
  refine wpAny_Slice (thn (po_none.run pins s1 σ H1 (fun o H2 => o = none ∧ H2 = H1) I1 ⟨rfl, rfl⟩) fun vl s2 ⟨l, H2, I2, pl, el, e2⟩ => ?_)
  subst el e2
  refine thn (hup.run pins s2 σ H2 (fun o H3 => o = some 0 ∧ H3 = H2) I2 ⟨0, rfl, rfl, rfl⟩) fun vu s3 ⟨u, H3, I3, pu, eu, e3⟩ => ?_
  subst eu e3
  refine thn (hst.run pins s3 σ H3 (fun o H4 => o = some (-1) ∧ H4 = H3) I3 ⟨1, rfl, -1, rfl, rfl, rfl⟩) fun vs s4 ⟨o, H4, I4, ps, eo, e4⟩ => ?_
  subst eo e4
  have I5 : Inv X pins σ H4 { s4 with heap := s4.heap.push { cls := .type "slice", data := .fields #[vl, vu, vs] } } := I4.kept (t' := s4.toks) fun b ob q => Heap.get?_push_of_some _ q
  obtain ⟨its, r, ht, hz⟩ := I5.list hx
  have hlen := r.length
  show wpAny (model X.prog X.w) X.A (subscriptTail e (.Slice none (some (.Constant (.int 0) k0 p0)) (some (.UnaryOp .USub (.Constant (.int 1) k1 p1) p2)) p3) (.ref a) (.ref s4.heap.objs.size)) (EP X pins σ Q) X.xe { s4 with heap := s4.heap.push { cls := .type "slice", data := .fields #[vl, vu, vs] } }
  refine tail_any (ops := [.ref a, .ref s4.heap.objs.size]) ht.isList.typeIs (PySem.slot_list_getitem.lookup) ?_ (by with_unfolding_all rfl)
  refine wpAny_getItem_list_slice ht.isList (Heap.IsSliceOf.new _ vl vu vs) pl pu ps (by intro z; cases z) ?_ (by rw [List.size_toArray]; omega)
  cases r with
  | cons ry rr =>
    rename_i uy us
    have hl2 : us.length = ys.length := rr.length.symm
    have e1 : slicePick (uy :: us).toArray none (some 0) (some (-1)) = us.reverse.toArray := by
      unfold slicePick
      congr 1
      rw [List.size_toArray, List.length_cons]
      have eb : sliceBounds none (some 0) (some (-1)) (us.length + 1) = ((us.length : Int), 0, -1) := by
        unfold sliceBounds
        simp
        omega
      rw [eb]
      unfold sliceRange
      have ec : (if (-1 : Int) > 0 then (if (us.length : Int) < 0 then (0 - (us.length : Int) + -1 - 1) / -1 else 0) else (if (us.length : Int) > 0 then ((us.length : Int) - 0 - -1 - 1) / (-(-1)) else 0)) = (us.length : Int) := by
        rw [if_neg (by decide)]
        split
        · rw [show (-(-1) : Int) = 1 from rfl, Int.ediv_one]
          omega
        · omega
      show List.filterMap (fun i => (uy :: us).toArray[i]?) ((List.range (if (-1 : Int) > 0 then (if (us.length : Int) < 0 then (0 - (us.length : Int) + -1 - 1) / -1 else 0) else (if (us.length : Int) > 0 then ((us.length : Int) - 0 - -1 - 1) / (-(-1)) else 0)).toNat).map fun (k : Nat) => ((us.length : Int) + -1 * (k : Int)).toNat) = _
      rw [ec, Int.toNat_natCast, List.filterMap_map, ← pick_tail uy us]
      have gen : ∀ l : List Nat, l.filterMap ((fun i => (uy :: us).toArray[i]?) ∘ fun (k : Nat) => ((us.length : Int) + -1 * (k : Int)).toNat) = l.filterMap (fun k => (uy :: us)[us.length - k]?) := by
        intro l
        congr 1
        funext k
        have e2 : ((us.length : Int) + -1 * (k : Int)).toNat = us.length - k := by omega
        show (uy :: us).toArray[((us.length : Int) + -1 * (k : Int)).toNat]? = _
        rw [e2]
        simp
      exact gen _
    rw [e1]
    refine ⟨.ref _, _, I5.laid (t' := s4.toks) (o := .lst ys.reverse) (fun b ob q => Heap.get?_push_of_some _ q) (Nat.le_refl _) ?_, rfl, q _ (I5.hok.fresh (Nat.le_refl _))⟩
    refine ⟨?_, _, 0, Vals.reverse rr, Heap.get?_push_size _ rfl⟩
    rw [List.length_reverse]
    rw [List.length_cons] at hz
    omega
mutual
theorem Dr.dp {K : PySem.W.Frag} {H : Hp} : ∀ {v : V} {d : PyData}, Dr H v d → d.hasDict = false → Dp K H v d
  | _, _, .non, _ => .non
  | _, _, .bl b, _ => .bl b
  | _, _, .int i, _ => .int i
  | _, _, .str x, _ => .str x
  | _, _, .lst h k, e => .lst (SqL.of h) (DrAll.dp k e)
  | _, _, .tup h k, e => .tup (SqT.of h) (DrAll.dp k e)
  | _, _, .dct h, e => by cases e
theorem DrAll.dp {K : PySem.W.Frag} {H : Hp} : ∀ {vs : List V} {ds : List PyData}, DrAll H vs ds → PyData.hasDictAll ds = false → DpAll K H vs ds
  | _, _, .nil, _ => .nil
  | _, _, .cons h k, e => .cons (Dr.dp h (Bool.or_eq_false_iff.mp e).1) (DrAll.dp k (Bool.or_eq_false_iff.mp e).2)
end
/-- l != [] -/
def rNeLE : R2 := fun x y H Q => ∃ p q xs, x = .ref p ∧ y = .ref q ∧ H p = some (.lst xs) ∧ H q = some (.lst []) ∧ Q (.bl (!decide (xs.length = 0))) H
theorem op_neLE (hu : X.A.units + 64 < cLine) : OpR X (compareOp .NotEq) rNeLE := by
  intro pins s σ H x y v u Q I rx ry h
  obtain ⟨p, q, xs, rfl, rfl, hp, hq, k⟩ := h
  cases rx
  cases ry
  obtain ⟨its, r, ht, hz⟩ := I.list (SqL.of hp)
  obtain ⟨its2, r2, ht2, hz2⟩ := I.list (SqL.of hq)
  cases r2
  have hl := r.length
  cases xs with
  | nil =>
    cases r
    have z := SeqAt.RcNeAt.lists (A := X.A) (s := s) (e := fun _ => true) ht.isList ht2.isList rfl (by omega) (fun j h1 h2 => by simp at h2) X.prog X.w X.xe (EP X pins σ Q)
    exact z ⟨.bl false, H, I, rfl, k⟩
  | cons y ys =>
    have z := SeqAt.RcNeAt.lists_lengths (A := X.A) (s := s) ht.isList ht2.isList (by rw [List.size_toArray, ← hl]; rfl) (by omega) X.prog X.w X.xe (EP X pins σ Q)
    exact z ⟨.bl true, H, I, rfl, k⟩
theorem all_eq_strs : ∀ (zs ys : List Str), zs.length = ys.length → ((List.range zs.length).all fun j => zs[j]?.getD Str.empty == ys[j]?.getD Str.empty) = decide (zs = ys)
  | [], [], _ => rfl
  | z :: zs, y :: ys, h => by
    have ih := all_eq_strs zs ys (by simpa using h)
    rw [List.length_cons, List.range_succ_eq_map, List.all_cons, List.all_map]
    have e : ((fun j => (z :: zs)[j]?.getD Str.empty == (y :: ys)[j]?.getD Str.empty) ∘ Nat.succ) = fun j => zs[j]?.getD Str.empty == ys[j]?.getD Str.empty := by
      funext j
      rfl
    rw [e, ih]
    show ((z == y) && decide (zs = ys)) = decide (z :: zs = y :: ys)
    rw [Bool.eq_iff_iff, Bool.and_eq_true, beq_iff_eq, decide_eq_true_iff, decide_eq_true_iff]
    constructor
    · intro h
      rw [h.1, h.2]
    · intro h
      cases h
      exact ⟨rfl, rfl⟩
/-- two lists of texts compared -/
def rEqSS (neg : Bool) : R2 := fun x y H Q => ∃ (p q : Addr) (zs ys : List Str), x = .ref p ∧ y = .ref q ∧ H p = some (.lst (zs.map V.str)) ∧ H q = some (.lst (ys.map V.str)) ∧ Q (.bl (if neg then !decide (zs = ys) else decide (zs = ys))) H
theorem strs_at {zs ys : List Str} {A : Around} {s : Shared} {its its2 : List Value} (r : Vals (zs.map V.str) its) (r2 : Vals (ys.map V.str) its2) : ∀ j (h1 : j < its.toArray.size) (h2 : j < its2.toArray.size), SeqAt.EqAt A s its.toArray[j] its2.toArray[j] (zs[j]?.getD Str.empty == ys[j]?.getD Str.empty) := by
  intro j h1 h2
  obtain ⟨k, t, e1, e2⟩ := val_str r j its.toArray[j] (Array.getElem?_eq_getElem h1)
  obtain ⟨k', t', e1', e2'⟩ := val_str r2 j its2.toArray[j] (Array.getElem?_eq_getElem h2)
  rw [e2, e2', e1, e1']
  exact SeqAt.EqAt.str_str k t k' t'
theorem op_eqSS (hu : X.A.units + 64 < cLine) : OpR X (compareOp .Eq) (rEqSS false) := by
  intro pins s σ H x y v u Q I rx ry h
  obtain ⟨p, q, zs, ys, rfl, rfl, hp, hq, k⟩ := h
  cases rx
  cases ry
  obtain ⟨its, r, ht, hz⟩ := I.list (SqL.of hp)
  obtain ⟨its2, r2, ht2, hz2⟩ := I.list (SqL.of hq)
  have hl := r.length
  have hl2 := r2.length
  rw [List.length_map] at hl hl2
  by_cases he : zs.length = ys.length
  · have z := SeqAt.RcAt.lists (A := X.A) (s := s) (e := fun j => zs[j]?.getD Str.empty == ys[j]?.getD Str.empty) ht.isList ht2.isList (by rw [List.size_toArray, List.size_toArray]; omega) (by omega) (strs_at r r2) X.prog X.w X.xe (EP X pins σ Q)
    rw [List.size_toArray, ← hl, all_eq_strs zs ys he] at z
    exact z ⟨.bl (decide (zs = ys)), H, I, rfl, k⟩
  · have ne : zs ≠ ys := fun e => he (congrArg List.length e)
    have z := SeqAt.RcAt.lists_lengths (A := X.A) (s := s) ht.isList ht2.isList (by rw [List.size_toArray, List.size_toArray, ← hl, ← hl2, bne_iff_ne]; exact he) (by omega) X.prog X.w X.xe (EP X pins σ Q)
    rw [decide_eq_false ne] at k
    exact z ⟨.bl false, H, I, rfl, k⟩
theorem op_neSS (hu : X.A.units + 64 < cLine) : OpR X (compareOp .NotEq) (rEqSS true) := by
  intro pins s σ H x y v u Q I rx ry h
  obtain ⟨p, q, zs, ys, rfl, rfl, hp, hq, k⟩ := h
  cases rx
  cases ry
  obtain ⟨its, r, ht, hz⟩ := I.list (SqL.of hp)
  obtain ⟨its2, r2, ht2, hz2⟩ := I.list (SqL.of hq)
  have hl := r.length
  have hl2 := r2.length
  rw [List.length_map] at hl hl2
  by_cases he : zs.length = ys.length
  · have z := SeqAt.RcNeAt.lists (A := X.A) (s := s) (e := fun j => zs[j]?.getD Str.empty == ys[j]?.getD Str.empty) ht.isList ht2.isList (by rw [List.size_toArray, List.size_toArray]; omega) (by omega) (strs_at r r2) X.prog X.w X.xe (EP X pins σ Q)
    rw [List.size_toArray, ← hl, all_eq_strs zs ys he] at z
    exact z ⟨.bl (!decide (zs = ys)), H, I, rfl, k⟩
  · have ne : zs ≠ ys := fun e => he (congrArg List.length e)
    have z := SeqAt.RcNeAt.lists_lengths (A := X.A) (s := s) ht.isList ht2.isList (by rw [List.size_toArray, List.size_toArray, ← hl, ← hl2, bne_iff_ne]; exact he) (by omega) X.prog X.w X.xe (EP X pins σ Q)
    rw [decide_eq_false ne] at k
    exact z ⟨.bl true, H, I, rfl, k⟩
/-- x.split(y), by name -/
def rSpl : V → List V → Hp → VK → Prop := fun x xs H Q => ∃ a b, x = .str a ∧ xs = [.str b] ∧ (b.length == 0) = false ∧ a.length + 2 ≤ sizeLine ∧ rNewStrs (Txt.split a b) H Q
theorem mt_splitD : MtR X "str.split" rSpl := mt_split
/-- y.join(l), by name -/
def rJoinK (K : PySem.W.Frag) : V → List V → Hp → VK → Prop := fun x xs H Q => ∃ a p, ∃ ys : List Str, x = .str a ∧ xs = [.ref p] ∧ (SqL K H p (ys.map V.str) ∨ SqT K H p (ys.map V.str)) ∧ (ys.map (·.length)).sum + ys.length * a.length ≤ 16777216 ∧ Q (.str (Txt.join a ys)) H
/-- l.index(x), of data without dicts -/
def rIndexG : V → List V → Hp → VK → Prop := fun x vs H Q => ∃ (y : V) (d : PyData) (ds : List PyData) (j : Nat) (z : PyData), vs = [y] ∧ Dr H x (.list ds) ∧ Dr H y d ∧ PyData.hasDictAll ds = false ∧ d.hasDict = false ∧
  SeqAt.shaped (.list ds) = true ∧ SeqAt.shaped d = true ∧ ds[j]? = some z ∧ PyData.eqv z d = true ∧ (∀ (m : Nat) (y : PyData), m < j → ds[m]? = some y → PyData.eqv y d = false) ∧ Q (.int (j : Nat)) H
theorem mt_indexG (hu : X.A.units + 65 < cLine) : MtR X "list.index" rIndexG := by
  intro pins s σ H x vs v us Q I rx rvs h
  obtain ⟨y, d, ds, j, z, rfl, hl, hy, n1, n2, h1, h2, h3, h4, h5, q⟩ := h
  cases hl with
  | lst ha k => exact mt_indexD hu pins s σ H _ _ v us Q I rx rvs ⟨_, y, d, ds, j, z, rfl, rfl, .lst (SqL.of ha) (DrAll.dp k n1), Dr.dp hy n2, h1, h2, h3, h4, h5, q⟩
end
end LK
namespace LK
open PySem PySem.Spec PyProof.Rows L2
/-! ### enumerate over a tuple -/
abbrev tupIt (l : Addr) : Obj := { cls := .type "tuple_iterator", data := .fields #[.ref l, .int 0 0] }
abbrev enuOb (i : Addr) : Obj := { cls := .type "enumerate", data := .fields #[.none, .bool false, .ref i, rawInt 0, .none, .none] }
theorem meets_enT (l : Addr) (zs : Array Value) : Meets (Builtin.«enumerate.__new__» ⟨[.type "enumerate", .ref l], []⟩) (fun _ R s => s.heap.IsTuple l zs ∧ R (.ok (.ret (.ref (s.heap.push (tupIt l)).objs.size))) { s with heap := (s.heap.push (tupIt l)).push (enuOb s.heap.objs.size) }) :=
  .of_wp fun prog w A R s h => by
    obtain ⟨hp, g, d, tk, os⟩ := s
    obtain ⟨h1, h⟩ := h
    have hsub := sub_enumerate
    have q1 : ∀ {A' : Around} {E : Value → Shared → Prop} {Q : Value → Shared → Prop}, Q (.ref hp.objs.size) ⟨hp.push (tupIt l), g, d, tk, os⟩ → wpAny (model prog w) A' (pyIter (.ref l)) Q E ⟨hp, g, d, tk, os⟩ := fun q => wpAny_pyIter_tuple h1 q
    wp_walk using q1
    refine wpAny_stack_any fun st0 => wpAny_pure ?_
    split
    · rename_i c _ _ _ _ _
      cases (c == Value.type "enumerate")
      · wp_walk using q1
        exact ⟨_, rfl, h⟩
      · wp_walk using q1
        exact ⟨_, rfl, h⟩
    · wp_walk using q1
      exact ⟨_, rfl, h⟩
theorem call_enT {prog : Program} {w : World} {A : Around} {E : Value → Shared → Prop} {s : Shared} {l : Addr} {zs : Array Value} {Q : Value → Shared → Prop} (hL : s.heap.IsTuple l zs)
    (h : ∀ h', IsEnum h' (s.heap.objs.size + 1) s.heap.objs.size 0 .none → h'.IsTupleIter s.heap.objs.size l 0 → (∀ b o, s.heap.get? b = some o → h'.get? b = some o) → Q (.ref (s.heap.objs.size + 1)) { s with heap := h' }) :
    wpAny (model prog w) A (call (.type "enumerate") [.ref l]) Q E s := by
  refine callType_new F.called_enumerate (by decide) (F.typeCall_enumerate_1 _) (F.newCall_enumerate_1 _) (fun ob => F.args_object_init_2 ob _) F.entry_enumerate_new (meets_enT l zs) ⟨hL, ?_⟩
  have hz : (s.heap.push (tupIt l)).objs.size = s.heap.objs.size + 1 := Heap.size_push ..
  show _ ∧ _
  rw [hz]
  have he : IsEnum ((s.heap.push (tupIt l)).push (enuOb s.heap.objs.size)) (s.heap.objs.size + 1) s.heap.objs.size 0 .none := by
    have z := Heap.get?_push_size (s.heap.push (tupIt l)) (o := enuOb s.heap.objs.size) rfl
    rw [hz] at z
    exact z
  exact ⟨⟨_, he, rfl⟩, h _ he ⟨_, Heap.get?_push_of_some _ (Heap.get?_push_size _ rfl), rfl, rfl⟩ fun b o x => Heap.get?_push_of_some _ (Heap.get?_push_of_some _ x)⟩
/-- the tuple at a, each item in a new pair -/
def ItE (K : PySem.W.Frag) (a : Addr) : It :=
  ⟨fun i H => ∃ (xs : List V) (x : V), SqT K H a xs ∧ xs[i]? = some x, fun i H v H2 => ∃ T x, v = .ref T ∧ H T = none ∧ H2 = upd H T (.tup [.int (i : Nat), x]) ∧ ∀ xs, SqT K H a xs → xs[i]? = some x, fun i H => ∃ xs : List V, SqT K H a xs ∧ xs.length = i⟩
theorem turn_enT {P : Program} {w : World} {K : PySem.W.Frag} {elts : List Expr} {kk : Nat} {tpos : Pos} (a e it : Addr) (d1 : a ≠ it) (d2 : e ≠ it) (d3 : e ≠ a) :
    Turn P w K (.Tuple elts kk tpos) (ItE K a) [e, it] e (fun i h => (∃ old, IsEnum h e it ((i : Nat) : Int) old) ∧ h.IsTupleIter it a i) where
  mem := by simp
  obj := fun i h st b hb => by
    obtain ⟨⟨old, he⟩, ⟨o, ho, hc, hd⟩⟩ := st
    have z0 : b = e ∨ b = it := by simpa using hb
    rcases z0 with z | z
    · rw [z]
      exact ⟨_, he, fun v q => nomatch q⟩
    · rw [z]
      exact ⟨o, ho, fun v q => by rw [hd] at q; cases q⟩
  keep := fun i h h2 st k => let ⟨⟨old, he⟩, hi⟩ := st; ⟨⟨old, k e (by simp) _ he⟩, hi.at fun o q => k it (by simp) o q⟩
  item := by
    intro X hP hw hK hc i pins s σ H E I hf st hg
    subst hP hw hK
    obtain ⟨⟨old, he⟩, hit⟩ := st
    obtain ⟨xs, x, hq, hx⟩ := hg
    obtain ⟨its, rv, p, hz⟩ := I.tuple hq
    obtain ⟨u, hu, ru⟩ := rv.get hx
    have p : s.heap.IsTuple a its.toArray := p
    have hel : e < s.heap.objs.size := Heap.lt_size he
    have hil : it < s.heap.objs.size := by
      obtain ⟨_, q, _⟩ := hit
      exact Heap.lt_size q
    have D := Draws.tuple (prog := X.prog) (w := X.w) (A := X.A.in1) (I.ok.hd hc) it a d1 its.toArray
    have lt : i < its.toArray.size := by
      have z := (List.getElem?_eq_some_iff.mp hu).1
      simpa using z
    refine wpAny_pyNext_enum_itemD D he ⟨hit, p⟩ lt d2 (by simp [d2, d3]) fun y h2 tk hy ho hs2 hT hsz hk => ?_
    have ey : y = u := by
      have z : its.toArray[i]? = some y := hy
      rw [List.getElem?_toArray, hu] at z
      cases z
      rfl
    subst ey
    refine ⟨_, rfl, wpAny_letOwnedTupleGo_enum (s := { s with heap := h2, toks := tk + 1 }) ho fun h3 he3 sb => ?_⟩
    have hT2 : h3.get? s.heap.objs.size = some { cls := .type "tuple", data := .seq #[.int i tk, y] } := (sb.2 _ (Nat.ne_of_gt hel)).trans hT
    have new : ObjOk X.prog X.w (upd H s.heap.objs.size (.tup [.int (i : Nat), x])) h3 s.heap.objs.size (.tup [.int (i : Nat), x]) := ⟨by show 2 ≤ sizeLine; decide, [.int i tk, y], .cons ⟨_, rfl⟩ (.cons ru .nil), ⟨_, hT2, rfl, _, rfl⟩⟩
    have I1 : Inv X pins σ (upd H s.heap.objs.size (.tup [.int (i : Nat), x])) { s with heap := h3, toks := tk + 1 } :=
      I.turnedNew (ch := [e, it]) (fun b ob hb q => (sb.2 b (fun z => hb (by simp [z]))).trans (hk b ob (fun z => hb (by simp [z])) (fun z => hb (by simp [z])) q)) hf (Nat.le_refl _) new
    refine ⟨.ref s.heap.objs.size, _, I1, rfl, ⟨_, x, rfl, I.hok.fresh (Nat.le_refl _), rfl, fun ys hy => by rw [I.tuple_inj hy hq]; exact hx⟩, ⟨⟨y, ?_⟩, hs2.1.at fun o q => (sb.2 it (Ne.symm d2)).trans q⟩, fun b hb => ?_⟩
    · rw [show ((i + 1 : Nat) : Int) = (i : Int) + 1 by omega]
      exact he3
    · have hb2 : b < s.heap.objs.size := by
        have z0 : b = e ∨ b = it := by simpa using hb
        rcases z0 with z | z
        · rw [z]
          exact hel
        · rw [z]
          exact hil
      rw [upd_ne (Nat.ne_of_lt hb2)]
      exact (hf b hb).1
  done := by
    intro X hP hw hK hc i pins s σ H E I hf st hg
    subst hP hw hK
    obtain ⟨⟨old, he⟩, hit⟩ := st
    obtain ⟨xs, hq, hx⟩ := hg
    obtain ⟨its, rv, p, hz⟩ := I.tuple hq
    have p : s.heap.IsTuple a its.toArray := p
    obtain ⟨f0, f1, f2, f3, f4, f5⟩ := hf it (by simp)
    have hl := rv.length
    have D := Draws.tuple (prog := X.prog) (w := X.w) (A := X.A.in1) (I.ok.hd hc) it a d1 its.toArray
    have en : i = its.toArray.size := by
      rw [← hx, hl]
      simp
    subst en
    exact wpAny_pyNext_enum_endD D he ⟨hit, p⟩ fun h2 eb => ⟨rfl, I.turned (t' := s.toks) (fun b o hb q => eb b o hb q) f0 f1 f3 f4 f5⟩
  self := fun A i s Q E st h => let ⟨⟨_, he⟩, _⟩ := st; wpAny_pyIter_enum he h
def iEnT (K : PySem.W.Frag) (ta : TA) : TI := fun σ H R => ta σ H fun vs H1 => ∃ a xs, vs = [.ref a] ∧ H1 a = some (.tup xs) ∧ R (ItE K a) H1
theorem pi_enT {X : Cx} {e : Expr} {ta : TA} {p pos tpos : Pos} {elts : List Expr} {kk : Nat} (hg : Gl X "enumerate") (hm : X.mg "enumerate" = none) (ha : PA X [e] ta) (hs : starEach [e] X.env = [(false, eval e X.env)] := by rfl) : PI X (.Tuple elts kk tpos) (.Call (.Name "enumerate" p) [e] [] pos) (iEnT X.K ta) := by
  refine ⟨fun pins s σ H R I h => ?_⟩
  refine Call_ (ld_blt I hg hm boot_enumerate (PyProof.Rows.callWith_type1 (thn (ha.run pos pins s σ H _ I h) fun us s1 ⟨vs, H1, I1, r1, q1⟩ => ?_) hs rfl))
  obtain ⟨a, xs, ex, hq, q⟩ := q1
  subst ex
  cases r1 with
  | cons r rr =>
    cases rr
    cases r
    obtain ⟨its, rv, pt, hz⟩ := I1.tuple (SqT.of hq)
    have pt : s1.heap.IsTuple a its.toArray := pt
    have hal : a < s1.heap.objs.size := by
      obtain ⟨_, z, _⟩ := id pt
      exact Heap.lt_size z
    refine call_enT pt fun h2 he hit hk => wpAny_pyIter_enum he ?_
    have I2 : Inv X pins σ H1 { s1 with heap := h2 } := I1.kept (t' := s1.toks) hk
    refine ⟨s1.heap.objs.size + 1, [s1.heap.objs.size + 1, s1.heap.objs.size], _, _, H1, rfl, I2, turn_enT a (s1.heap.objs.size + 1) s1.heap.objs.size (Nat.ne_of_lt hal) (Nat.succ_ne_self _) (Nat.ne_of_gt (Nat.lt_succ_of_lt hal)), ⟨⟨.none, he⟩, hit⟩, fun b hb => ?_, q⟩
    have z0 : b = s1.heap.objs.size + 1 ∨ b = s1.heap.objs.size := by simpa using hb
    have hle : s1.heap.objs.size ≤ b := by
      rcases z0 with z | z
      · rw [z]
        exact Nat.le_succ _
      · rw [z]
        exact Nat.le_refl _
    exact I1.fpOk hle (I1.hok.fresh hle)
def ItN (xs : List V) (i : Nat) (v : V) (H : Hp) : Prop := ∃ T x, v = .ref T ∧ H T = some (.tup [.int (i : Nat), x]) ∧ xs[i]? = some x
theorem walk_enT {K : PySem.W.Frag} {a D : Addr} {xs : List V} {H1 : Hp} (ha : H1 a = some (.tup xs)) (n : H1 D = none) : Walk (ItE K a) xs.length (ItN xs) H1 D := by
  have sa : ∀ H, Sab D H1 H → SqT K H a xs := fun H s => SqT.of (s _ _ (ne_of_none ha n) ha)
  refine ⟨fun i H lt s => ⟨xs, xs[i], sa H s, List.getElem?_eq_getElem _⟩, fun H s => ⟨xs, sa H s, rfl⟩, fun i H v H2 s lt y => ?_⟩
  obtain ⟨T, x, rfl, nT, rfl, f⟩ := y
  exact ⟨same_upd nT, T, x, rfl, upd_same, f _ (sa H s)⟩
end LK
namespace LK
open PySem PySem.Spec PyProof.Rows L2
/-! ### list(d.values()) -/
theorem kv_vals : ∀ {kvs : List (Key × V)} {vs : List (Key × Value)}, KV kvs vs → Vals (kvs.map (·.2)) (vs.map (·.2)) := by
  intro kvs vs r
  unfold KV at r
  induction r with
  | nil => exact .nil
  | cons h t ih => exact .cons h.2 ih
theorem acc_vals {vs : List (Key × Value)} {acc : Array Value} (h : ItemsOf (fun i v => ∃ k, vs[i]? = some (k, v)) acc vs.length) : acc.toList = vs.map (·.2) := by
  refine List.ext_getElem? fun j => ?_
  rw [List.getElem?_map, Array.getElem?_toList]
  cases e : acc[j]? with
  | none =>
    have z : vs.length ≤ j := by
      have z := Array.getElem?_eq_none_iff.mp e
      rw [h.1] at z
      exact z
    rw [List.getElem?_eq_none_iff.mpr z]
    rfl
  | some v =>
    obtain ⟨k, hk⟩ := h.2 j v e
    rw [hk]
    rfl
def tListVals (te : TE) : TE := fun σ H Q => te σ H fun x H1 => ∃ (d : Addr) (kvs : List (Key × V)), x = .ref d ∧ (H1 d = some (.dK kvs) ∨ ∃ o, H1 d = some (.frz o (.dK kvs))) ∧ ∀ p, H1 p = none → Q (.ref p) (upd H1 p (.lst (kvs.map (·.2))))
section
variable {X : Cx} {e : Expr} {te : TE} {p apos cpos pos : Pos}
theorem pe_listVals (hc : X.calm = true) (he : PE X e te) (hg : Gl X "list") (hm : X.mg "list" = none) (hv : bootBuiltins "list" = some (.type "list")) (hbase : attributeBase e "values" X.env (eval e X.env) = eval e X.env := by rfl) (hline : (apos.endLine == cpos.line) = true := by rfl)
    (hs : starEach [.Call (.Attribute e "values" apos) [] [] cpos] X.env = (false, eval (.Call (.Attribute e "values" apos) [] [] cpos) X.env) :: starEach [] X.env := by rfl) :
    PE X (.Call (.Name "list" p) [.Call (.Attribute e "values" apos) [] [] cpos] [] pos) (tListVals te) := by
  refine ⟨fun pins s σ H Q I hq => ?_⟩
  refine wpAny_Call_Name_kw (ld_blt I hg hm hv (PyProof.Rows.callWith_type1 ?_ hs rfl))
  rw [hs]
  show wpAny _ _ (spliced ((false, eval (.Call (.Attribute e "values" apos) [] [] cpos) X.env) :: backTo pos (starEach [] X.env))) _ _ s
  refine Calls.spliced_cons (wpAny_Call_method (T := "dict") (id := "dict.values") hbase rfl hline F.plainAttrs_dict F.slot_dict_values F.type_dict_values (thn (he.run pins s σ H _ I hq) fun u s1 ⟨x, H1, I1, rx, d, kvs, ex, hd, q⟩ => ?_))
  subst ex
  obtain rfl : u = Value.ref d := rx
  have hh : ∃ (vs : List (Key × Value)) (ep : Nat), kvs.length ≤ sizeLine ∧ (d == sysModules) = false ∧ KV kvs vs ∧ s1.heap.DictAt (mixKind X.prog X.w) d vs ep := by
    rcases hd with hd | ⟨o, hd⟩
    · obtain ⟨hz, hs0, vs, kv, hdo⟩ := I1.hok d _ hd
      obtain ⟨ep, hat⟩ := hdo.dictAt
      exact ⟨vs, ep, hz, hs0, kv, hat⟩
    · obtain ⟨hs, hgd, hx, es, ep, vs, hdt, hsz, kv, hm⟩ := I1.frzK hd
      obtain ⟨_, z, _⟩ := I1.hok d _ hd
      exact ⟨vs, _, z, hs, kv, hm⟩
  obtain ⟨vs, ep, hz, hs0, kv, hat⟩ := hh
  have hdo := hat.dictOf
  have lk : kvs.length = vs.length := Paired.length kv
  have I2 : Inv X pins σ H1 { s1 with heap := s1.heap.push { cls := .type "dict_values", data := .fields #[.ref d] } } := I1.kept (t' := s1.toks) fun b ob z => Heap.get?_push_of_some _ z
  refine ⟨hdo.typeIs, hdo.mapOf.noDict, (?_ : wpAny _ _ (callWith cpos (.builtin "dict.values") [.ref d] [] []) _ X.xe s1)⟩
  refine method_meetsIn F.slot_dict_values F.entry_dict_values rfl (PySem.evalArgs_none ⟨rfl, hdo.typeIs, F.args_dict_values_1 _, _, meets_dict_values (mixKind X.prog X.w) d hs0, ⟨vs, hdo⟩, Calls.spliced_nil ?_⟩)
  refine PySem.W.kdl_call (PySem.W.kdl_values (knd := mixKind X.prog X.w) (kvs := vs) (ep := ep)) (I1.ok.hd hc) ⟨⟨_, Heap.get?_push_size _ rfl, rfl, rfl⟩, hat.push _⟩ (by omega) fun h2 tk acc c hk hS hacc => ?_
  have new : ObjOk X.prog X.w (upd H1 (s1.heap.push { cls := .type "dict_values", data := .fields #[.ref d] }).objs.size (.lst (kvs.map (·.2)))) h2 (s1.heap.push { cls := .type "dict_values", data := .fields #[.ref d] }).objs.size (.lst (kvs.map (·.2))) := by
    refine ⟨by rw [List.length_map]; omega, acc.toList, c, by rw [acc_vals hacc]; exact kv_vals kv, ?_⟩
    rw [Array.toArray_toList]
    exact hS
  exact ⟨.ref _, _, I2.laid (t' := tk) hk (Nat.le_refl _) new, rfl, q _ (I2.hok.fresh (Nat.le_refl _))⟩
end
end LK
namespace LK
open PySem PySem.Spec PyProof.Rows L2
section
variable {X : Cx} {CX : CXT} {k : Nat} {f C : Addr} {fd : FuncData} {ps ks : List Str} {sp : Sp} {E : XK} {x m : Str} {p pos apos : Pos} {o : Expr} {kws : List Keyword} {ta tk : TA} {to : TE} {g : List Value → List Value → List Value} {gV : List V → List V → List V}
/-- f(k = v, ..) -/
theorem pe_callN0 (F : FnOk X.prog X.w X.K X.mg X.base CX k f fd ps sp) (hr : Room k X.A) (hg : Gl X x) (hm : X.mg x = some (.ref f)) (hk : PySem.W.keepIn X.K (.ref f) = true) (hb : KBn X.K fd ps 0 ks g gV) (hx : Passes CX X E) (hkw : PK X kws tk)
    (hall : (backToKw pos (keywordEach kws X.env)).all (·.1.isSome) = true := by rfl) (hks : (backToKw pos (keywordEach kws X.env)).filterMap (·.1) = ks := by rfl) (hdb : (x == ("__debug__" : Str)) = false := by decide)
    (hpl : ((backTo pos (starEach [] X.env)).any (·.1) || (backToKw pos (keywordEach kws X.env)).any (·.1.isNone)) = false := by rfl) :
    PE X (.Call (.Name x p) [] kws pos) (tCallN 0 ks.length sp gV E tNil tk) := by
  refine ⟨fun pins s σ H Q I h => ?_⟩
  refine wpAny_Call_Name_kw (ld_glob I hg hm ?_ hdb)
  refine PySem.W.callWith_KW0 (h₀ := X.base) I.ok.mod.kin hk hall ?_ hpl
  refine thn (hkw.run pos pins s σ H _ I h) fun ws s2 ⟨zs, H2, I2, rz, l1, l2, q2⟩ => ⟨I2.kIn, ?_⟩
  rw [hks]
  exact run_fnN (us := []) (vs := []) F hr hb hx I2 .nil rz rfl l2 q2
/-- o.m(k = v, ..) -/
def tMethN (C : Addr) (m : Str) (n : Nat) (sp : Sp) (gV : List V → List V → List V) (E : XK) (to : TE) (tk : TA) : TE := fun σ H Q => to σ H fun x H1 => ∃ a dx fs, x = .ref a ∧ H1 a = some (.ins C dx fs) ∧ fs.lookup m = none ∧ tk σ H1 fun zs H2 => zs.length = n ∧ sp (gV [.ref a] zs) H2 Q E
theorem pe_methN0 {pl : Sem Bool} (he : PE X o to) (c : Cls X.K C) (hm : Meth X.K C m f) (F : FnOk X.prog X.w X.K X.mg X.base CX k f fd ps sp) (hr : Room k X.A) (hb : KBn X.K fd ps 1 ks g gV) (hx : Passes CX X E) (hkw : PK X kws tk)
    (hall : (backToKw pos (keywordEach kws X.env)).all (·.1.isSome) = true := by rfl) (hks : (backToKw pos (keywordEach kws X.env)).filterMap (·.1) = ks := by rfl)
    (hpl : ((backTo pos (starEach [] X.env)).any (·.1) || (backToKw pos (keywordEach kws X.env)).any (·.1.isNone)) = false := by rfl)
    (ht : eval (.Call (.Attribute o m apos) [] kws pos) X.env = (do
      let ov ← eval o X.env
      standAt apos.atName
      let (f, first) ← holding [ov] (getMethod ov m pl)
      callWith pos f first (backTo pos (starEach [] X.env)) (backToKw pos (keywordEach kws X.env))) := by rfl) :
    PE X (.Call (.Attribute o m apos) [] kws pos) (tMethN C m ks.length sp gV E to tk) := by
  refine ⟨fun pins s σ H Q I h => ?_⟩
  refine PySem.W.methodCall_KW (pl := pl) (thn (he.run pins s σ H _ I h) fun u s1 ⟨x, H1, I1, rx, a, dx, fs, ex, ea, l, q⟩ => ?_) ht
  subst ex
  obtain rfl : u = Value.ref a := rx
  refine getmeth_ok I1 ea c hm l ?_
  refine PySem.W.callWith_KW0 (first := [.ref a]) (h₀ := X.base) I.ok.mod.kin hm.kp hall ?_ hpl
  refine thn (hkw.run pos pins s1 σ H1 _ I1 q) fun ws s2 ⟨zs, H2, I2, rz, l2, q2⟩ => ⟨I2.kIn, ?_⟩
  rw [hks]
  exact run_fnN (us := [.ref a]) (vs := [.ref a]) F hr hb hx I2 (.cons rfl .nil) rz rfl l2 q2
end
section
variable {prog : Program} {w : World} {A : Around} {E : Value → Shared → Prop} {s : Shared} {K : PySem.W.Frag} {x y C L f : Addr} {h₀ : Heap} {m : Str → Option Value} {ox : Obj} {od : Option Obj}
theorem ifBound_B {M : Model} {B id : String} {name : Str} {args : List Value} {Q : Option Value → Shared → Prop} (X : K.In s.heap) (I : PySem.W.InstAt s.heap x ox C od) (hs : PySem.W.findIn K (.ref C) name = some (some (.builtin id))) (S : Slot B name id)
    (h : wpAny M A (call (.builtin id) (.ref x :: args)) (fun v => Q (some v)) E s) : wpAny M A (callSpecialIfBound? (.ref x) name args) Q E s := by
  simp only [callSpecialIfBound?, bindSpecialIfBound?]
  refine wpAny_holding (wpAny_bind (wpAny_bind (wpAny_bind (I.type.here ((PySem.W.looks_findIn X hs).here ?_)))))
  simp only [S.bind]
  refine wpAny_bind (wpAny_askSetting (wpAny_ite ?_))
  have fin : wpAny M A (call (.builtin id) ([.ref x] ++ args) >>= fun v => pure (some v)) Q E s := wpAny_bind (wpAny_mono h (fun v s' h' => wpAny_pure h') fun _ _ h' => h')
  split
  · exact wpAny_bind (wpAny_pure (wpAny_pure fin))
  · exact wpAny_tryCatch (wpAny_bind (wpAny_pure (wpAny_pure fin)))
theorem check_slot_K {M : Model} {id owner n : String} {rest : List Value} {Q : Unit → Shared → Prop} (X : K.In s.heap) (I : PySem.W.InstAt s.heap x ox C od) (hsub : PySem.W.subIn K (.ref C) (.type owner) = some true) (hk : builtinKind id = some .slot) (hs : splitId id = some (owner, n))
    (ha : argsOk id ⟨.ref x :: rest, []⟩) (hq : Q () s) : wpAny M A (checkBuiltinCall id ⟨.ref x :: rest, []⟩) Q E s := by
  simp only [checkBuiltinCall, hk, hs]
  refine wpAny_bind ?_
  unfold isInstance
  refine wpAny_bind (I.type.here ((PySem.W.looks_subIn X hsub).here ?_))
  rw [if_neg (by decide)]
  cases hsig : Manifest.signature? id with
  | none => exact wpAny_pure hq
  | some sig =>
    simp only [argsOk, hsig] at ha
    have h2 : Bind.checkArgs id sig ⟨.ref x :: rest, []⟩ = pure () := ha
    show wpAny M A (Bind.checkArgs id sig ⟨.ref x :: rest, []⟩) Q E _
    rw [h2]
    exact wpAny_pure hq
theorem ne_entry_K {Q : Fin → Shared → Prop} (hu : A.units < cLine) (X : K.In s.heap) (I : PySem.W.InstAt s.heap x ox C od) (he : PySem.W.findIn K (.ref C) "__eq__" = some (some (.ref f))) (hf : PySem.W.isFn K (.ref f) = true)
    (h : wpAny (model prog w) A (call (.ref f) [.ref x, .ref y]) (fun v s' => ∃ b, v = .bool b ∧ Q (.done (.ret (.bool (!b)))) s') E s) : wpAny (model prog w) A (Builtin.«object.__ne__» ⟨[.ref x, .ref y], []⟩) Q E s := by
  unfold Builtin.«object.__ne__»
  repeat (first
    | with_reducible refine wpAny_cRoomFor hu ?_
    | (refine wpAny_bind (m := callSpecialIfBound? (.ref x) (Str.ofString "__eq__") [.ref y])
        (PySem.W.ifBound_K X I he hf (wpAny_mono h (fun r s' hr => by
          obtain ⟨b, rfl, hq⟩ := hr
          repeat (first | exact hq | exact wpAny_pure hq | exact wpAny_truthy_bool hq | (refine wpAny_bind (m := truthy (.bool _)) (wpAny_truthy_bool ?_)) | wp_step)) fun _ _ e => e)))
    | wp_step)
/-- != of two instances of one class by its own == -/
theorem ne_K {Q : Value → Shared → Prop} (hu : A.units + 1 < cLine) (X : K.In s.heap) (I : PySem.W.InstAt s.heap x ox C od) (hb : PySem.W.Looks (model prog w) s.heap (typeOf (.ref y)) (.ref C))
    (hn : PySem.W.findIn K (.ref C) "__ne__" = some (some (.builtin "object.__ne__"))) (he : PySem.W.findIn K (.ref C) "__eq__" = some (some (.ref f))) (hf : PySem.W.isFn K (.ref f) = true) (hsub : PySem.W.subIn K (.ref C) (.type "object") = some true)
    (h : wpAny (model prog w) A.in1 (call (.ref f) [.ref x, .ref y]) (fun v s' => ∃ b, v = .bool b ∧ Q (.bool (!b)) s') E s) : wpAny (model prog w) A (richCompare .NotEq (.ref x) (.ref y)) Q E s := by
  have one : wpAny (model prog w) A (tryCompare (.ref x) "__ne__" (.ref y)) (fun r s' => ∃ v, r = some v ∧ Q v s') E s := by
    unfold tryCompare
    refine wpAny_bind (ifBound_B X I hn PySem.F.cmp_object.ne (wpAny_call (codeAny_call_builtin PySem.F.cmp_object.ne.plain PySem.F.cmpEntry_ne
      (check_slot_K X I hsub PySem.F.cmpKind_ne PySem.F.cmpSplit_ne (PySem.F.cmpArgs_ne _ _) (ne_entry_K (A := A.in1) hu X I he hf (wpAny_mono h (fun v s' hv => ?_) fun _ _ e => e))))))
    obtain ⟨b, rfl, hq⟩ := hv
    exact ⟨b, rfl, wpAny_pure ⟨_, rfl, hq⟩⟩
  unfold richCompare
  simp only [oneThing_ref]
  refine wpAny_holding (wpAny_bind (wpAny_cRoomFor (Nat.lt_of_succ_lt hu) ?_))
  rw [cmpInfo_NotEq]
  dsimp only
  refine wpAny_bind (I.type.here (wpAny_bind (hb.here ?_)))
  rw [show (Value.ref C != Value.ref C) = false from by simp]
  simp only [Bool.false_eq_true, if_false]
  refine wpAny_bind (wpAny_pure ?_)
  simp only [Bool.false_eq_true, if_false]
  refine wpAny_bind (wpAny_mono one (fun r s' z => ?_) fun _ _ e => e)
  obtain ⟨v, rfl, hq⟩ := z
  exact wpAny_pure hq
end
/-- x != y of two instances of the class at C with an own == -/
def rNeI (C : Addr) (sp : Sp) : R2 := fun x y H Q => ∃ a b dx dy fs gs, x = .ref a ∧ y = .ref b ∧ H a = some (.ins C dx fs) ∧ H b = some (.ins C dy gs) ∧ sp [.ref a, .ref b] H (fun v H2 => ∃ c, v = .bl c ∧ Q (.bl (!c)) H2) (fun _ _ _ => False)
theorem op_neI {X : Cx} {n : Nat} {C f : Addr} {fd : FuncData} {ps : List Str} {sp : Sp} (F : FnOk X.prog X.w X.K X.mg X.base CX0 n f fd ps sp) (hs : PySem.W.findIn X.K (.ref C) "__eq__" = some (some (.ref f))) (hn : PySem.W.findIn X.K (.ref C) "__ne__" = some (some (.builtin "object.__ne__"))) (hf : PySem.W.isFn X.K (.ref f) = true) (hsub : PySem.W.subIn X.K (.ref C) (.type "object") = some true) (hb : Binds X.K fd ps []) (hr : Room (n + 1) X.A) : OpR X (compareOp .NotEq) (rNeI C sp) := by
  intro pins s σ H x y v u Q I rx ry hq
  obtain ⟨a, b, dx, dy, fs, gs, rfl, rfl, ha, hb', h⟩ := hq
  cases rx
  cases ry
  obtain ⟨mA, J, _⟩ := ins_get I.hok ha
  obtain ⟨mB, J', _⟩ := ins_get I.hok hb'
  obtain ⟨od, J, _⟩ := J.look
  obtain ⟨od', J', _⟩ := J'.look
  show wpAny (model X.prog X.w) X.A (richCompare .NotEq (.ref a) (.ref b)) (EP X pins σ Q) X.xe s
  have hu : X.A.units + 1 < cLine := hr.in1.units0
  refine ne_K (K := X.K) hu I.kIn J J'.type hn hs hf hsub ?_
  have e0 : Env0 X.prog X.w X.K X.mg X.base X.A.in1 X.stack s H := by
    have e := I.env0
    exact ⟨e.frames, e.mod, e.bs, e.bsz, e.funs, e.frf, e.hok, e.bare⟩
  have hl := F.len _ _ _ _ h
  have r2 : Vals [V.ref a, V.ref b] [Value.ref a, Value.ref b] := .cons rfl (.cons rfl .nil)
  refine wpAny_call (codeAny_mono (F.run X.A.in1 X.stack s H ⟨[.ref a, .ref b], []⟩ [.ref a, .ref b] [.ref a, .ref b] _ _ hr.in1 e0 (by
    have := hb s [.ref a, .ref b] I.kIn (by simpa using hl)
    simpa using this) r2 h) fun r s' hq => ?_)
  cases r with
  | error e => exact pass0 pins σ H s e s' I hq
  | ok fl =>
    cases fl with
    | ret w =>
      obtain ⟨z, H', I', rz, c, ez, qq⟩ := I.after hq
      subst ez
      cases rz
      exact ⟨c, rfl, .bl (!c), H', I', rfl, qq⟩
    | next => exact False.elim hq
    | brk => exact False.elim hq
    | cont => exact False.elim hq
/-- a class of the text whose own == is the def at f -/
structure LnkE (P : Program) (w : World) (K : PySem.W.Frag) (mg : Str → Option Value) (base : Heap) (C : Addr) (k : Nat) (ps : List Str) (sp : Sp) : Prop where
  ex : ∃ f fd, FnOk P w K mg base CX0 k f fd ps sp ∧ PySem.W.findIn K (.ref C) "__eq__" = some (some (.ref f)) ∧ PySem.W.isFn K (.ref f) = true ∧ Binds K fd ps []
  ne : PySem.W.findIn K (.ref C) "__ne__" = some (some (.builtin "object.__ne__"))
  sub : PySem.W.subIn K (.ref C) (.type "object") = some true
theorem op_lnkNe {X : Cx} {C : Addr} {k : Nat} {ps : List Str} {sp : Sp} (L : LnkE X.prog X.w X.K X.mg X.base C k ps sp) (hr : Room (k + 1) X.A) : OpR X (compareOp .NotEq) (rNeI C sp) := by
  obtain ⟨f, fd, F, hs, hf, hb⟩ := L.ex
  exact op_neI F hs L.ne hf L.sub hb hr
/-- arguments by their names, the last parameter first -/
def rvA {α : Type} (us ws : List α) : List α := us ++ ws.reverse
theorem kbn_of {K : PySem.W.Frag} {x qual : Str} {st : Stmt} {f : Addr} {fd : FuncData} {ps : List Str} (F : Fun K x qual st f fd) (n : Nat) (ks : List Str)
    (h : ∀ (kV doc pm : Value) (an : Option Addr) (cdv ct : Value) (us ws : List Value), us.length = n → ws.length = ks.length → bindArgs (PySem.W.fnOf x qual (defArgs st) (defBody st) (defScope st) .none kV doc pm an cdv ct) ⟨us, ks.zip ws⟩ = pure (ps.zip (rvA us ws))) : KBn K fd ps n ks rvA rvA := by
  obtain ⟨oc, od, kV, doc, pm, an, cdv, ct, osl, rfl, lk, hcd⟩ := F.ex
  exact ⟨fun s us ws _ l1 l2 => BindsTo.of_eq (h kV doc pm an cdv ct us ws l1 l2), fun r1 r2 => r1.append r2.reverse⟩
structure LnkK (P : Program) (w : World) (K : PySem.W.Frag) (mg : Str → Option Value) (base : Heap) (x : Str) (k : Nat) (ps ks : List Str) (sp : Sp) : Prop where
  ex : ∃ f fd, mg x = some (.ref f) ∧ PySem.W.keepIn K (.ref f) = true ∧ FnOk P w K mg base CX0 k f fd ps sp ∧ KBn K fd ps 0 ks rvA rvA
structure LnkMK (P : Program) (w : World) (K : PySem.W.Frag) (mg : Str → Option Value) (base : Heap) (C : Addr) (m : Str) (k : Nat) (ps ks : List Str) (sp : Sp) : Prop where
  ex : ∃ f fd, Meth K C m f ∧ FnOk P w K mg base CX0 k f fd ps sp ∧ KBn K fd ps 1 ks rvA rvA
structure LnkCK (P : Program) (w : World) (K : PySem.W.Frag) (mg : Str → Option Value) (base : Heap) (x : Str) (C : Addr) (k : Nat) (ps ks : List Str) (sp : Sp) : Prop where
  ex : ∃ f fd, mg x = some (.ref C) ∧ Mk K C f ∧ FnOk P w K mg base CX0 k f fd ps sp ∧ KBn K fd ps 1 ks rvA rvA
section
variable {X : Cx} {k : Nat} {C : Addr} {ps ks : List Str} {sp : Sp} {x m : Str} {p pos apos : Pos} {o : Expr} {kws : List Keyword} {tk : TA} {to : TE}
theorem pe_lnkK (L : LnkK X.prog X.w X.K X.mg X.base x k ps ks sp) (hr : Room k X.A) (hg : Gl X x) (hkw : PK X kws tk)
    (hall : (backToKw pos (keywordEach kws X.env)).all (·.1.isSome) = true := by rfl) (hks : (backToKw pos (keywordEach kws X.env)).filterMap (·.1) = ks := by rfl) (hdb : (x == ("__debug__" : Str)) = false := by decide)
    (hpl : ((backTo pos (starEach [] X.env)).any (·.1) || (backToKw pos (keywordEach kws X.env)).any (·.1.isNone)) = false := by rfl) :
    PE X (.Call (.Name x p) [] kws pos) (tCallN 0 ks.length sp rvA (fun _ _ _ => False) tNil tk) := by
  obtain ⟨f, fd, m, kp, F, b⟩ := L.ex
  exact pe_callN0 F hr hg m kp b pass0 hkw hall hks hdb hpl
theorem pe_lnkMK {pl : Sem Bool} (c : Cls X.K C) (L : LnkMK X.prog X.w X.K X.mg X.base C m k ps ks sp) (hr : Room k X.A) (he : PE X o to) (hkw : PK X kws tk)
    (hall : (backToKw pos (keywordEach kws X.env)).all (·.1.isSome) = true := by rfl) (hks : (backToKw pos (keywordEach kws X.env)).filterMap (·.1) = ks := by rfl)
    (hpl : ((backTo pos (starEach [] X.env)).any (·.1) || (backToKw pos (keywordEach kws X.env)).any (·.1.isNone)) = false := by rfl)
    (ht : eval (.Call (.Attribute o m apos) [] kws pos) X.env = (do
      let ov ← eval o X.env
      standAt apos.atName
      let (f, first) ← holding [ov] (getMethod ov m pl)
      callWith pos f first (backTo pos (starEach [] X.env)) (backToKw pos (keywordEach kws X.env))) := by rfl) :
    PE X (.Call (.Attribute o m apos) [] kws pos) (tMethN C m ks.length sp rvA (fun _ _ _ => False) to tk) := by
  obtain ⟨f, fd, M, F, b⟩ := L.ex
  exact pe_methN0 he c M F hr b pass0 hkw hall hks hpl ht
theorem pe_lnkCK (L : LnkCK X.prog X.w X.K X.mg X.base x C k ps ks sp) (hr : Room (k + 1) X.A) (hg : Gl X x) (hkw : PK X kws tk)
    (hall : (backToKw pos (keywordEach kws X.env)).all (·.1.isSome) = true := by rfl) (hks : (backToKw pos (keywordEach kws X.env)).filterMap (·.1) = ks := by rfl) (hdb : (x == ("__debug__" : Str)) = false := by decide)
    (hpl : ((backTo pos (starEach [] X.env)).any (·.1) || (backToKw pos (keywordEach kws X.env)).any (·.1.isNone)) = false := by rfl) :
    PE X (.Call (.Name x p) [] kws pos) (tMakeK C 0 ks.length sp rvA (fun _ _ _ => False) tNil tk) := by
  obtain ⟨f, fd, m, M, F, b⟩ := L.ex
  exact pe_makeK0 M F hr hg m b pass0 hkw hall hks hdb hpl
end
end LK
namespace LK
open PySem PySem.Spec PyProof.Rows L2
/-- an object that is there and not tracked, and was not there at the entry, may be tracked -/
theorem track {X : Cx} {ps : List (Addr × Obj)} {σ : L2.St} {H : Hp} {s : Shared} {a : Addr} {o : HO} {ob : Obj} {vs : Array Value} (J : Inv X ps σ H s) (new : X.s_0.heap.get? a = none) (un : H a = none) (at_ : s.heap.get? a = some ob) (dat : ob.data = .fields vs)
    (nl : a ≠ X.env.locals) (np : ∀ p ∈ X.pn ++ ps, p.1 ≠ a) (fit : ObjOk X.prog X.w (upd H a o) s.heap a o) : Inv X ps σ (upd H a o) s where
  ok := J.ok
  os := J.os
  bare := J.bare
  base := {
    keep := J.base.keep
    slot := J.base.slot
    free := fun b u q z e => by
      rw [upd_ne (fun w => by rw [w, new] at q; cases q)]
      exact J.base.free b u q z e
    there := J.base.there
    tups := fun b xs q => by
      have z := J.base.tups b xs q
      rw [upd_ne (ne_of_none z un)]
      exact z
    frzs := fun b u xs q => by
      have z := J.base.frzs b u xs q
      rw [upd_ne (ne_of_none z un)]
      exact z
    tbls := fun b l q => by
      obtain ⟨m, z⟩ := J.base.tbls b l q
      exact ⟨m, by rw [upd_ne (ne_of_none z un)]; exact z⟩ }
  loc := J.loc
  cell := J.cell
  free := by
    rw [upd_ne nl.symm]
    exact J.free
  freeC := fun x c e => by
    obtain ⟨v, oc, q1, q2⟩ := J.cell x c e
    have ne : c ≠ a := fun z => by
      rw [z, at_] at q1
      cases q1
      rw [dat] at q2
      cases q2
    rw [upd_ne ne]
    exact J.freeC x c e
  pin := fun p hp => by
    obtain ⟨k1, k2, k3⟩ := J.pin p hp
    exact ⟨k1, by rw [upd_ne (np p hp)]; exact k2, k3⟩
  hok := J.hok.laidN (fun _ _ q => q) un fit
  len := J.len
/-- the wish of a clause that leaves by its end, and whose error stays in hand -/
def wKeep (K : PySem.W.Frag) (c : Value) (i l : Nat) (ts : Addr → Value → Option Addr → TS) (D : Ends) : WX := fun kl dd τ G =>
  PySem.W.exmOne K kl c = some true ∧ ∀ e, G e = none → τ.length = l → ts e kl dd { nx := fun τ2 G2 => D.nx (τ2.set i none) (upd G2 e (ErrO kl dd e)), rt := fun _ _ => False, bk := fun _ _ => False, ct := fun _ _ => False } (τ.set i (some (.ref e))) G
section
variable {X : Cx} {x n : Str} {c : Value} {i : Nat} {body rest : List Stmt} {first : Stmt} {p1 p2 p3 : Pos} {tb : WX → TS} {ts : Addr → Value → Option Addr → TS}
/-- try: body / except x as n: suite, where the error may be kept by another name -/
theorem ps_try_keep (e1 : X.stack = X.env :: X.outer) (e2 : X.env.frame = some X.env.locals) (nd : X.N.Nodup) (at_ : X.N[i]? = some n) (lc : X.env.kindOf n = some .local) (nm : Names X x c) (e3 : X.ex = [])
    (B1 : ∀ (W : WX) (pn : List (Addr × Obj)) (xe : Value → Shared → Prop), Takes (X.tr pn xe) W → PassesOwn (model X.prog X.w) X.A X.env xe → PSs (X.tr pn xe) body (tb W))
    (S1 : ∀ (e : Addr) (oe : Obj) (kl : Value) (dd : Option Addr) (pn : List (Addr × Obj)), Zc kl dd oe → (∃ vs, oe.data = .fields vs) → PSs (X.suite e ((e, oe) :: pn)) (first :: rest) (ts e kl dd)) :
    PS X (.Try body [.ExceptHandler (some (.Name x p1)) (some n) (first :: rest) p3] [] [] p2) (fun D τ G => tb (wKeep X.K c i X.N.length ts D) D τ G) := by
  constructor
  intro ps s τ G D I h
  have good := I.ok
  have frm : X.A.frames = some (X.env :: X.outer) := good.frames.trans (by rw [e1])
  apply wpAny_Try_except
  let xe : Value → Shared → Prop := fun er t1 => wpAny (model X.prog X.w) X.A (noteFrame er X.env) (fun _ t2 => wpAny (model X.prog X.w) X.A (setFlight er none) (fun _ t3 => wpAny (model X.prog X.w) X.A (handleBy er X.env [.ExceptHandler (some (.Name x p1)) (some n) (first :: rest) p3]) (SP X ps D) X.xe t3) X.xe t2) X.xe t1
  have caught : Takes (X.tr (X.pn ++ ps) xe) (wKeep X.K c i X.N.length ts D) := by
    intro u t air
    obtain ⟨e, ground, t0, ps0, τ0, G0, kl, dd, rfl, J0, gr, upS, sky0, free0, os0, gen0, hm, yes⟩ := air
    have J := Inv.ofTry J0 good
    have sky1 : Sky ground (X.env :: X.outer) e (Zc kl dd) X.env.locals t.heap := e1 ▸ sky0
    refine Sky.land Zc.steady frm e2 sky1 fun k3 fly up3 => ?_
    obtain ⟨o3, w3, q3, z3, f3⟩ := fly.there
    have out : e ∉ frs (X.env :: X.outer) := fun bad => by
      obtain ⟨_, o', q', nf⟩ := fly.2.2.1.mem bad
      rw [q3] at q'
      cases q'
      exact nf _ f3
    have nl : e ≠ X.env.locals := fun z => out (List.mem_filterMap.mpr ⟨X.env, List.mem_cons_self, z ▸ e2⟩)
    have nfs : e ∉ X.fs := fun bad => by
      obtain ⟨v, hv, q⟩ := List.mem_filterMap.mp bad
      exact out (List.mem_filterMap.mpr ⟨v, List.mem_cons_of_mem _ hv, q⟩)
    -- the error is new
    have gone : t0.heap.get? e = none := by
      cases q : t0.heap.get? e with
      | none => rfl
      | some o =>
        have z := gr e o q (by rw [show X.stack = X.env :: X.outer from e1]; exact out)
        rw [fly.2.1] at z
        cases z
    have old : X.s_0.heap.get? e = none := by
      cases q : X.s_0.heap.get? e with
      | none => rfl
      | some o =>
        obtain ⟨o', z⟩ := J.base.there e o q (by rw [e3]; exact fun bad => nomatch bad)
        rw [gone] at z
        cases z
    have apart : ∀ p ∈ X.pn ++ ps, p.1 ≠ e := fun p hp z => by
      have q := (J.pin p hp).1
      rw [z, gone] at q
      cases q
    have J3 : Inv X ps τ0 G0 ⟨k3, t.gens, t.drawn, t.toks, t.os⟩ := J.landed gr fly.1 (upS.trans up3) os0 gen0
    have U3 := J3.suite q3 f3 free0 nl nfs
    apply wpAny_handleBy_cons (codeAny_handlers_test _) (by intro q; cases q)
    have kind : PySem.W.Looks (model X.prog X.w) k3 (typeOf (.ref e)) kl := fun _ _ _ _ keep hq => wpAny_typeOf_ref (keep _ _ q3) (by rw [z3.1]; exact hq)
    have asks : ∀ {Q E : Value → Shared → Prop}, Q c ⟨k3, t.gens, t.drawn, t.toks, t.os⟩ → wpAny (model X.prog X.w) (X.A.mark (some (.ref e))) (eval (.Name x p1) X.env) Q E ⟨k3, t.gens, t.drawn, t.toks, t.os⟩ := by
      intro Q E hq
      obtain ⟨g1, g2, g3⟩ := nm
      rcases g3 with g3 | ⟨g3, g4, g5⟩
      · exact ld_glob (X := X.suite e ((e, o3) :: (X.pn ++ ps))) U3 g1 g3 hq g2
      · exact ld_blt (X := X.suite e ((e, o3) :: (X.pn ++ ps))) U3 g1 g3 g4 hq g5 g2
    apply asks
    apply (PySem.W.exm_one (M := model X.prog X.w) J3.kIn kind hm).here
    apply codeAny_handlers_suite_as
    apply HandSPX.lands_againZ fly
    intro k4 fly4 up4
    obtain ⟨o4, w4, q4, z4, f4⟩ := fly4.there
    have J4 : Inv X ps τ0 G0 ⟨k4, t.gens, t.drawn, t.toks, t.os⟩ := J.landed gr fly4.1 ((upS.trans up3).trans up4) os0 gen0
    have U4 := J4.suite q4 f4 free0 nl nfs
    apply store_ok (X := X.suite e ((e, o4) :: (X.pn ++ ps))) (v := .ref e) U4 nd at_ (.inl lc) rfl ?_ (.inr lc)
    intro t5 U5
    have run := (S1 e o4 kl dd (X.pn ++ ps) z4 ⟨w4, f4⟩).run [] t5 _ G0 _ U5 (yes e free0 J.len)
    refine wpAny_mono run (fun fl t6 hsp => ?_) (fun _ _ bad => bad.elim)
    cases fl with
    | next =>
      obtain ⟨τ6, G6, U6, q6⟩ := hsp
      have pin6 := U6.pin (e, o4) (List.mem_append_left _ (List.mem_cons_self))
      have J6 : Inv X ps τ6 G6 t6 := U6.unsuite good
      have K6 := track J6 old pin6.2.1 pin6.1 f4 nl apart (errO_ok (P := X.prog) (w := X.w) (H := upd G6 e (ErrO kl dd e)) pin6.1 z4 f4)
      exact gone_ok K6 nd at_ lc fun t7 J7 => ⟨_, _, J7, q6⟩
    | brk =>
      obtain ⟨_, _, _, bad⟩ := hsp
      exact bad.elim
    | cont =>
      obtain ⟨_, _, _, bad⟩ := hsp
      exact bad.elim
    | ret u =>
      obtain ⟨_, _, _, _, _, bad⟩ := hsp
      exact bad.elim
  have run := (B1 (wKeep X.K c i X.N.length ts D) (X.pn ++ ps) xe caught PassesOwn.looking).run [] s τ G D (I.toTry _) h
  refine wpAny_mono run (fun fl t1 hsp => ?_) (fun er t1 he => he)
  cases fl with
  | next =>
    obtain ⟨τ1, G1, J1, q⟩ := hsp
    exact wpAny_execs_nil ⟨τ1, G1, Inv.ofTry J1 good, q⟩
  | brk =>
    obtain ⟨τ1, G1, J1, q⟩ := hsp
    exact ⟨τ1, G1, Inv.ofTry J1 good, q⟩
  | cont =>
    obtain ⟨τ1, G1, J1, q⟩ := hsp
    exact ⟨τ1, G1, Inv.ofTry J1 good, q⟩
  | ret u =>
    obtain ⟨v, τ1, G1, J1, r, q⟩ := hsp
    exact ⟨v, τ1, G1, Inv.ofTry J1 good, r, q⟩
end
section
variable {P : Program} {w : World} {K : PySem.W.Frag} {mg : Str → Option Value} {base : Heap}
/-- a promise that holds where nothing is raised, and one that holds where something is -/
theorem fn_both {k : Nat} {f : Addr} {fd : FuncData} {ps : List Str} {sp0 sp1 : Sp} (F0 : FnOk P w K mg base CX0 k f fd ps sp0) (F1 : FnOk P w K mg base (L2.CX P w) k f fd ps sp1) : FnOk P w K mg base (L2.CX P w) k f fd ps (fun vs H Q E => sp0 vs H Q (fun _ _ _ => False) ∨ sp1 vs H Q E) := by
  refine ⟨fun vs H Q E h => h.elim (F0.len vs H Q _) (F1.len vs H Q E), fun A outer s H args us vs Q E hr e0 hb rv h => ?_⟩
  rcases h with h | h
  · refine codeAny_mono (F0.run A outer s H args us vs Q _ hr e0 hb rv h) fun r s2 hq => ?_
    cases r with
    | error e => exact False.elim hq
    | ok fl => cases fl <;> exact hq
  · exact F1.run A outer s H args us vs Q E hr e0 hb rv h
end
/-- a def that may raise, called -/
structure LnkX (P : Program) (w : World) (K : PySem.W.Frag) (mg : Str → Option Value) (base : Heap) (x : Str) (k : Nat) (ps : List Str) (sp : Sp) : Prop where
  ex : ∃ f fd, mg x = some (.ref f) ∧ PySem.W.keepIn K (.ref f) = true ∧ FnOk P w K mg base (L2.CX P w) k f fd ps sp ∧ Binds K fd ps []
theorem pe_lnkX {X : Cx} {x : Str} {k : Nat} {ps : List Str} {sp : Sp} {E : XK} {p pos : Pos} {e : Expr} {es : List Expr} {t : TA} (L : LnkX X.prog X.w X.K X.mg X.base x k ps sp) (hr : Room k X.A) (hg : Gl X x) (hx : Passes (L2.CX X.prog X.w) X E) (ha : PA X (e :: es) t)
    (hdb : (x == ("__debug__" : Str)) = false := by decide) (he : starEach (e :: es) X.env = (false, eval e X.env) :: starEach es X.env := by rfl) (hpl : (backTo pos (starEach es X.env)).any (·.1) = false := by rfl) :
    PE X (.Call (.Name x p) (e :: es) [] pos) (tCall sp [] E t) := by
  obtain ⟨f, fd, m, kp, F, b⟩ := L.ex
  exact pe_call F hr hg m kp b .nil hx ha hdb he hpl
/-- x(e), an error to be raised: its own dict is new -/
theorem pmk_err {X : Cx} {x f : Str} {C : Addr} {e : Expr} {te : TE} {p pos : Pos} (M : ErrCls X.prog X.w X.K X.mg X.base x f C) (hr : Room 2 X.A) (hg : Gl X x) (he : PE X e te)
    (hdb : (x == ("__debug__" : Str)) = false := by decide) (hs : starEach [e] X.env = (false, eval e X.env) :: starEach [] X.env := by rfl) : PMk X (.Call (.Name x p) [e] [] pos) (fun σ H Q => te σ H fun v H1 => ∀ d, H1 d = none → Q (.ref C) (some d) (upd H1 d (.xd [(f, v)]))) := by
  obtain ⟨fI, fd, iC, tI, G, b⟩ := M.init
  have base := pmk_oex (p := p) (pos := pos) M.T iC tI G hr b .nil pass0 hg M.gC (pa_cons (pe_up he) pa_nil hs) hdb hs rfl
  intro pins s σ H Q I h
  refine base pins s σ H Q I ⟨_, h, fun v H1 hv => ⟨(show 1 ≤ 1000 by decide), fun a na => ⟨a, C, v, rfl, M.T, M.no, upd_same, fun d nd nda => ⟨rfl, d, [(f, v)], upd_same, ?_, (none_upd nd).1, ?_⟩⟩⟩⟩
  · rw [upd_ne nda, upd_same]
  · have same : (upd (del (upd (upd (upd H1 a (exo a C none)) d (exd d [(f, v)])) a (exo a C (some d))) a) d (.xd [(f, v)])) = upd H1 d (.xd [(f, v)]) := by
      funext y
      by_cases y1 : y = d
      · rw [y1, upd_same, upd_same]
      · by_cases y2 : y = a
        · rw [upd_ne y1, upd_ne y1, y2, del_same, na]
        · rw [upd_ne y1, upd_ne y1, del_ne y2, upd_ne y2, upd_ne y1, upd_ne y2]
    rw [same]
    exact hv d (none_upd nd).1
end LK
namespace LK
open PySem PySem.Spec PyProof.Rows L2
open LamX (TabB)
/-- the law's own call where nothing is being shown, with a table of code objects at T -/
theorem law_goesT {P : Program} {w : World} {K : PySem.W.Frag} {mg mb : Str → Option Value} {k : Nat} {fa a c T : Addr} {fd : FuncData} {x : Str} {sp : Sp} {s1 : Shared} {vs : List Value} {ns : List Int}
    (KX : K.In s1.heap) (hns : s1.heap.Ns mainGlobals mg) (hb : s1.heap.Ns builtinsNs mb) (hbb : ∀ x : Str, x ≠ "__name__" → mb x = bootBuiltins x) (hlim : s1.heap.NoLimit) (hg : s1.gens = #[])
    (hT : s1.heap.get? T = some { cls := .none, data := .fields #[] }) (nT : K.lookup T = none) (CT : PySem.W.CodeHd s1.heap c T)
    (hm : ∃ (m : Addr) (om : Obj), mg "__builtins__" = some (.ref m) ∧ m ≠ builtinsNs ∧ s1.heap.get? m = some om ∧ om.cls = .type "module" ∧ om.dict = some builtinsNs ∧ om.data = .plain)
    (ha : s1.heap.get? a = some { cls := .type "list", data := .seq vs.toArray }) (hi : IntsAre vs ns) (hl : ns.length ≤ sizeLine) (hr : Room k callerA)
    (F : ∀ base : Heap, K.In base → base.Ns mainGlobals mg → TabB base mg c T → FnG P w K mg base CX0 k fa fd [x] sp) (hbind : ∀ (s : Shared) (u : Value), BindsTo s fd ⟨[u], []⟩ [(x, u)])
    (hsp : ∀ H : Hp, H T = some (.tbl #[]) → SqL K H a (ns.map V.int) → sp [.ref a] H (fun v _ => v = .bl true) fun _ _ _ => False) :
    codeAny (model P w) callerA (.call (.ref fa) ⟨[.ref a], []⟩) (fun r s2 => r = .ok (.ret (.bool true)) ∧ OldK s1.heap s2.heap ∧ s2.os = s1.os ∧ AllBare s2.gens) s1 := by
  have rv := vals_ints hi
  have aT : a ≠ T := fun z => by
    rw [z, hT] at ha
    have q : Data.fields #[] = Data.seq vs.toArray _ := congrArg Obj.data (Option.some.inj ha)
    cases q
  have core : ∀ H : Hp, H T = some (.tbl #[]) → (∀ b u, H b = some u → (b = T ∧ u = .tbl #[]) ∨ (b = a ∧ K.lookup a = none ∧ u = .frz { cls := .type "list", data := .seq vs.toArray } (.lst (ns.map V.int)))) → SqL K H a (ns.map V.int) →
      codeAny (model P w) callerA (.call (.ref fa) ⟨[.ref a], []⟩) (fun r s2 => r = .ok (.ret (.bool true)) ∧ OldK s1.heap s2.heap ∧ s2.os = s1.os ∧ AllBare s2.gens) s1 := by
    intro H hHT hH hS
    have hok : HOk P w H s1.heap := fun b u e => by
      rcases hH b u e with ⟨rfl, rfl⟩ | ⟨rfl, _, rfl⟩
      · exact hT
      · exact ⟨ha, by rw [List.length_map]; exact hl, vs, _, rv, ha⟩
    have get : ∀ {b : Addr} {o : Obj}, s1.heap.get? b = some o → H b = none → (hidT s1.heap H).get? b = some o := fun e n => hidT_get e n
    have free : ∀ {b : Addr} {o : Obj}, s1.heap.get? b = some o → (∀ y n, o.data ≠ .seq y n) → o.data ≠ .fields #[] → H b = none := fun {b o} e d1 d2 => by
      cases z : H b with
      | none => rfl
      | some u =>
        rcases hH b u z with ⟨rfl, _⟩ | ⟨rfl, _, _⟩
        · rw [hT] at e
          cases e
          exact absurd rfl d2
        · rw [ha] at e
          cases e
          exact absurd rfl (d1 _ _)
    have spaces : ∀ {b : Addr} {m : Str → Option Value}, s1.heap.Ns b m → (hidT s1.heap H).Ns b m := fun {b m} z => by
      obtain ⟨o, es, ep, e, d, r⟩ := z
      exact ⟨o, es, ep, get e (free e (fun y n q => by rw [d] at q; cases q) (fun q => by rw [d] at q; cases q)), d, r⟩
    have kb : K.In (hidT s1.heap H) := fun b o e => get (KX b o e) (by
      cases z : H b with
      | none => rfl
      | some u =>
        rcases hH b u z with ⟨rfl, _⟩ | ⟨rfl, n, _⟩
        · rw [nT] at e
          cases e
        · rw [n] at e
          cases e)
    have md : Mod K mg (hidT s1.heap H) := by
      obtain ⟨mc, z1, z2⟩ := hlim
      exact ⟨kb, spaces hns, ⟨mb, spaces hb, hbb⟩, ⟨mc, spaces z1, z2⟩⟩
    have tb : TabB (hidT s1.heap H) mg c T := by
      refine ⟨?_, ?_, fun z => ?_⟩
      · obtain ⟨o, us, fl, t1, g1, t2, i1, x1, t3, q0, q1, q2, q3, rest⟩ := CT
        exact ⟨o, us, fl, t1, g1, t2, i1, x1, t3, get q0 (free q0 (fun y n z => by rw [q2] at z; cases z) fun z => by rw [q2] at z; cases z; simp at q3), q1, q2, q3, rest⟩
      · obtain ⟨m, om, m1, m2, m3, m4, m5, m6⟩ := hm
        refine ⟨m, om, m1, m2, fun z => ?_, fun z => ?_, get m3 (free m3 (fun y n q => by rw [m6] at q; cases q) fun q => by rw [m6] at q; cases q), m4, m5, m6⟩
        · obtain ⟨o, es, ep, e, d, _⟩ := hns
          rw [z, e] at m3
          cases m3
          rw [d] at m6
          cases m6
        · rw [z, hT] at m3
          cases m3
          cases m6
      · obtain ⟨o, es, ep, e, d, _⟩ := hns
        rw [z, hT] at e
        cases e
        cases d
    have e0 : Env0 P w K mg (hidT s1.heap H) callerA [] s1 H :=
      ⟨rfl, md, fun b o e => of_hidT e, Nat.le_of_eq (hidT_size _ _), trivial, fun b hb => (nomatch (show b ∈ ([] : List Addr) from hb)), hok, .of_eq hg⟩
    refine codeAny_mono ((F _ kb (spaces hns) tb).go callerA rfl hr [] s1 H ⟨[.ref a], []⟩ [.ref a] [.ref a] _ _ e0 (hbind s1 (.ref a)) (.cons rfl .nil) (hsp H hHT hS)) fun r s2 h => ?_
    cases r with
    | error e => exact False.elim h
    | ok fl =>
      cases fl with
      | next => exact False.elim h
      | brk => exact False.elim h
      | cont => exact False.elim h
      | ret u =>
        obtain ⟨v, H2, os, bare, un, hok2, r2, q⟩ := h
        have ev : v = .bl true := q
        subst ev
        have eu : u = Value.bool true := r2
        subst eu
        have stay : ∀ b o, b ≠ T → s1.heap.get? b = some o → s2.heap.get? b = some o := fun b o nb e => by
          cases z : H b with
          | none => exact un.keep b o e z (fun n => (nomatch (show b ∈ ([] : List Addr) from n))) (fun n => (nomatch n))
          | some y =>
            rcases hH b y z with ⟨rfl, _⟩ | ⟨rfl, _, rfl⟩
            · exact absurd rfl nb
            · obtain ⟨e2, _⟩ := hok2 _ _ (un.frzs _ _ _ z)
              rw [ha] at e
              cases e
              exact e2
        obtain ⟨more, hmo⟩ := un.tbls T #[] hHT
        have grown : s2.heap.get? T = some { cls := .none, data := .fields (#[] ++ more) } := hok2 T _ hmo
        refine ⟨rfl, ⟨fun b o e => ?_, fun b o e => ?_⟩, os, bare⟩
        · by_cases hb : b = T
          · subst hb
            rw [hT] at e
            cases e
            exact .inr (.inl ⟨(CT.tab hT).isCodeTable, rfl, #[], more, rfl, grown⟩)
          · exact .inl (stay b o hb e)
        · by_cases hb : b = T
          · subst hb
            exact ⟨_, grown⟩
          · exact ⟨o, stay b o hb e⟩
  cases hk : K.lookup a with
  | some o =>
    have e := KX a o hk
    rw [ha] at e
    cases e
    refine core (fun b => if b = T then some (.tbl #[]) else none) (if_pos rfl) (fun b u z => ?_) (.inr ⟨_, vs.toArray, _, hk, rfl, rfl, rfl, by rw [List.size_toArray, hi.length]; exact hl, by simpa using rv⟩)
    by_cases e : b = T
    · have z2 := (if_pos e).symm.trans z
      cases z2
      exact .inl ⟨e, rfl⟩
    · have z2 := (if_neg e).symm.trans z
      cases z2
  | none =>
    refine core (fun b => if b = T then some (.tbl #[]) else if b = a then some (.frz { cls := .type "list", data := .seq vs.toArray } (.lst (ns.map V.int))) else none) (if_pos rfl) (fun b u z => ?_) (.inl (.inr ⟨{ cls := .type "list", data := .seq vs.toArray }, (if_neg aT).trans (if_pos rfl)⟩))
    by_cases e : b = T
    · have z2 := (if_pos e).symm.trans z
      cases z2
      exact .inl ⟨e, rfl⟩
    · have z2 := (if_neg e).symm.trans z
      by_cases e2 : b = a
      · have z3 := (if_pos e2).symm.trans z2
        cases z3
        exact .inr ⟨e2, hk, rfl⟩
      · have z3 := (if_neg e2).symm.trans z2
        cases z3
/-- the goal that k_head leaves, where the law makes lambdas -/
theorem walk_goesT {l : PySem.W.OpenLaw} {n k : Nat} {q : Program} {loose : List Str} {XP : (Str → Option Value) → Heap → Prop} {YP : World → Heap → Prop} {d : DefRec} {K : Params → PySem.W.Frag} {sp : World → Addr → Sp} {x : Str}
    (hn : l.most = some n) (hn2 : n ≤ sizeLine) (hdf : d.params.defaults = []) (hr : Room k callerA) (hrec : ((recsOf q).any fun e => e.name == d.name) = true) (hno : ∀ p : Params, PySem.W.noTabs (K p) = true) (hY : ∀ (w : World) (h : Heap), YP w h → (K w.params).In h)
    (F : ∀ (w : World) (mg : Str → Option Value) (fa c T : Addr) (h : Heap), (K w.params).In h → h.Ns mainGlobals mg → mg d.name = some (.ref fa) → (∀ (o : Obj) (fd : FuncData), h.get? fa = some o → o.data = .func fd → fd.code = .ref c) →
      ∃ fd : FuncData, (∀ (s : Shared) (u : Value), BindsTo s fd ⟨[u], []⟩ [(x, u)]) ∧ ∀ base : Heap, (K w.params).In base → base.Ns mainGlobals mg → TabB base mg c T → FnG l.prog w (K w.params) mg base CX0 k fa fd [x] (sp w T))
    (hsp : ∀ (w : World) (H : Hp) (a T : Addr) (ns : List Int), ns.length ≤ n → H T = some (.tbl #[]) → SqL (K w.params) H a (ns.map V.int) → sp w T [.ref a] H (fun v _ => v = .bl true) fun _ _ _ => False) :
    PySem.W.WalkO q loose XP YP l.row.toRowW d [] (fun f vs => PySem.call f vs) := by
  refine Att.attach_call hn hdf fun w s0 s1 mg mb fa o pm cd doc a vs ns G Y ho hd hcd hmg hobj hints hlen hg => ?_
  have KX := hY w _ Y
  obtain ⟨dL, dm, dn⟩ := List.any_eq_true.mp hrec
  have dn2 : dL.name = d.name := beq_iff_eq.mp dn
  obtain ⟨a1, o1, fd1, c, T, t1, t2, t3, t4, t5, t6⟩ := G.T.tab dL dm
  rw [dn2, hmg] at t1
  cases t1
  have hT := t6.2
  have nT : (K w.params).lookup T = none := by
    cases z : (K w.params).lookup T with
    | none => rfl
    | some y =>
      have e := KX T y z
      rw [hT] at e
      have e2 := Option.some.inj e
      have h2 := List.all_eq_true.mp (hno w.params) (T, y) (PySem.W.mem_of_lookupK z)
      rw [← e2] at h2
      exact absurd h2 (by intro bad; exact Bool.false_ne_true bad)
  obtain ⟨fd, hb, hF⟩ := F w mg fa c T _ KX G.T.g hmg fun o2 fd2 e1 e2 => by
    rw [t2] at e1
    cases e1
    rw [t3] at e2
    cases e2
    exact t4
  exact law_goesT KX G.T.g G.T.b G.T.builtins G.T.nolimit hg hT nT (PySem.W.CodeHd.of t5 t6) G.T.bmain hobj hints (Nat.le_trans hlen hn2) hr hF hb fun H hH hS => hsp w H a T ns hlen hH hS
/-! ### answers one construct at a time -/
section
variable {σ : L2.St} {H : Hp}
theorem g_if {c : TT} {t u : TS} {D : Ends} (h : c σ H fun b H1 => if b = true then t D σ H1 else u D σ H1) : tIfS c t u D σ H := h
theorem g_or {t u : TT} {Q : Bool → Hp → Prop} (h : t σ H fun c H1 => if c = true then Q true H1 else u σ H1 Q) : tOr t u σ H Q := h
theorem g_and {t u : TT} {Q : Bool → Hp → Prop} (h : t σ H fun c H1 => if c = true then u σ H1 Q else Q false H1) : tAnd t u σ H Q := h
theorem g_not {t : TT} {Q : Bool → Hp → Prop} (h : t σ H fun c H1 => Q (!c) H1) : tNot t σ H Q := h
theorem g_cb {r : List V → Hp → VK → Prop} {te : TE} {Q : VK} (h : te σ H fun v H1 => r [v] H1 Q) : tCB r (tCons te tNil) σ H Q := h
theorem g_test {te : TE} {Q : Bool → Hp → Prop} (h : te σ H fun x H1 => ∃ k, x = .bl k ∧ Q k H1) : tTest te σ H Q := h
theorem g_tb {te : TE} {Q : Bool → Hp → Prop} (h : te σ H fun x H1 => ∃ k, x = .bl k ∧ Q k H1) : tB te σ H Q := h
theorem g_op {r : R2} {ta tb : TE} {Q : VK} (h : ta σ H fun x H1 => tb σ H1 fun y H2 => r x y H2 Q) : tOp r ta tb σ H Q := h
theorem g_ret {te : TE} {D : Ends} (h : te σ H D.rt) : tRet te D σ H := h
theorem g_par {i j : Nat} {ta tb : TE} {D : Ends} (h : ta σ H fun v H1 => tb σ H1 fun w H2 => ∃ v2 w2, [v, w] = [v2, w2] ∧ D.nx ((σ.set i (some v2)).set j (some w2)) H2) : tPar i j (tCons ta (tCons tb tNil)) D σ H := h
theorem g_tup {te : TE} {ta : TA} {Q : VK} (h : te σ H fun v H1 => ta σ H1 fun vs H2 => (v :: vs).length ≤ sizeLine ∧ ∀ p, H2 p = none → Q (.ref p) (upd H2 p (.tup (v :: vs)))) : tTup (tCons te ta) σ H Q := h
theorem g_lst1 {te : TE} {Q : VK} (h : te σ H fun v H1 => [v].length ≤ sizeLine ∧ ∀ p, H1 p = none → p ≠ sysModules → Q (.ref p) (upd H1 p (.lst [v]))) : tLstS (tCons te tNil) σ H Q := h
theorem g_up {te : TE} {Q : VK} (Q0 : VK) (h : te σ H Q0) (k : ∀ v H1, Q0 v H1 → Q v H1) : tUp te σ H Q := ⟨Q0, h, k⟩
theorem g_ife {c : TT} {ta tb : TE} {Q : VK} (h : c σ H fun b H1 => if b = true then ta σ H1 Q else tb σ H1 Q) : tIf c ta tb σ H Q := h
theorem g_var {i : Nat} {v : V} {Q : VK} (h : σ[i]? = some (some v)) (k : Q v H) : tVar i σ H Q := ⟨v, h, k⟩
theorem g_bm {K : PySem.W.Frag} {ty : String} {r : V → List V → Hp → VK → Prop} {i : Nat} {v : V} {te : TE} {Q : VK} (h : σ[i]? = some (some v)) (ht : tyV K ty v H) (k : te σ H fun y H1 => r v [y] H1 Q) : tBM K ty r (tVar i) (tCons te tNil) σ H Q := ⟨v, h, ht, k⟩
theorem g_c {v : V} {Q : VK} (h : Q v H) : tC v σ H Q := h
theorem g_yes {te : TE} {R : VK} {R0 : Hp → Prop} (h : te σ H R) : tYes σ H fun b H3 => if b = true then te σ H3 R else R0 H3 := h
end
theorem if_t {b : Bool} {p q : Prop} (h : b = true) (k : p) : if b = true then p else q := by
  rw [h]
  exact k
theorem if_f {b : Bool} {p q : Prop} (h : b = false) (k : q) : if b = true then p else q := by
  rw [h]
  exact k
end LK
/-! a call that may raise, where what is asked of the error may speak of the slots as they stand at the call -/
namespace LK
open PySem PySem.Spec PyProof.Rows L2
section
variable {X : Cx} {W : WX} {x : Str} {k : Nat} {ps : List Str} {sp : Sp} {p pos : Pos} {e : Expr} {es : List Expr} {t : TA}
def tCallS (sp : Sp) (W : WX) (t : TA) : TE := fun σ H Q => t σ H fun vs H1 => sp vs H1 Q (fun cls d H2 => W cls d σ H2)
theorem pe_lnkXs (L : LnkX X.prog X.w X.K X.mg X.base x k ps sp) (hr : Room k X.A) (hg : Gl X x) (tk : Takes X W) (ha : PA X (e :: es) t)
    (hdb : (x == ("__debug__" : Str)) = false := by decide) (he : starEach (e :: es) X.env = (false, eval e X.env) :: starEach es X.env := by rfl) (hpl : (backTo pos (starEach es X.env)).any (·.1) = false := by rfl) :
    PE X (.Call (.Name x p) (e :: es) [] pos) (tCallS sp W t) := by
  obtain ⟨f, fd, m, kp, F, b⟩ := L.ex
  constructor
  intro pins s τ G D J q0
  have inner : ∀ (us : List Value) (vs : List V) (s1 : Shared) (G1 : Hp), Inv X pins τ G1 s1 → Vals vs us → sp vs G1 D (fun cls d H2 => W cls d τ H2) → wpAny (model X.prog X.w) X.A (call (.ref f) us) (EP X pins τ D) X.xe s1 := by
    intro us vs s1 G1 J1 rel q1
    have hl : us.length = ps.length := rel.length.symm.trans (F.len _ _ _ _ q1)
    have bind := b s1 us J1.kIn (by rw [List.append_nil]; exact hl)
    rw [List.append_nil] at bind
    refine wpAny_call (codeAny_mono (F.run X.A X.stack s1 G1 ⟨us, []⟩ us vs D _ hr J1.env0 bind rel q1) ?_)
    intro r s2 hq
    match r, hq with
    | .error e2, hq => exact tk e2 s2 (XE.of_call J1 (fun _ _ _ h => h) hq)
    | .ok (.ret u), hq => exact J1.after hq
    | .ok .next, hq => exact hq.elim
    | .ok .brk, hq => exact hq.elim
    | .ok .cont, hq => exact hq.elim
  apply wpAny_Call_Name_kw
  refine ld_glob J hg m ?_ hdb
  exact PySem.W.callWith_K (h₀ := X.base) J.ok.mod.kin kp (thn (ha.run pos pins s τ G _ J q0) fun us s1 ⟨vs, G1, J1, r, q⟩ => ⟨J1.kIn, inner us vs s1 G1 J1 r q⟩) he hpl
end
end LK
/-! a tuple taken once, or not at all -/
namespace LK
open PySem PySem.Spec PyProof.Rows L2
theorem mul_none (l : Addr) (items : Array Value) (n : Nat) (dd : Option Addr) (sl : Array (Option Value)) (x : Int) (u : Tok) (c0 : (decide (x < -(2 ^ 63)) || decide (x ≥ 2 ^ 63)) = false) (c1 : (items.isEmpty || x == 1) = false) (c2 : (decide (x ≤ 0) || items.isEmpty) = true) :
    Meets (Builtin.«tuple.__mul__» ⟨[.ref l, .int x u], []⟩) (fun _ R s => s.heap.get? l = some { cls := .type "tuple", dict := dd, data := .seq items n, slots := sl } ∧
      R (.ok (.ret (Value.ref s.heap.objs.size))) { s with heap := s.heap.push { cls := Value.type "tuple", data := Data.seq #[] }, toks := s.toks }) :=
  .of_wp fun prog w A R s h => by
    obtain ⟨hp, g, d, tk, os⟩ := s
    obtain ⟨hl, h⟩ := h
    have f1 := AutoSeq1.idx_int
    wp_walk using wpAny_loadPart' hl
    repeat (first
      | (refine wpAny_ite_false (decide_eq_false (by rw [c0]; exact Bool.false_ne_true)) ?_; wp_walk using wpAny_loadPart' hl)
      | (refine wpAny_ite_false (decide_eq_false (by rw [c1]; exact Bool.false_ne_true)) ?_; wp_walk using wpAny_loadPart' hl)
      | (refine wpAny_ite_true (decide_eq_true (by rw [c2])) ?_; wp_walk using wpAny_loadPart' hl))
    exact ⟨_, rfl, h⟩
theorem mul_once (l : Addr) (items : Array Value) (n : Nat) (dd : Option Addr) (sl : Array (Option Value)) (x : Int) (u : Tok) (c0 : (decide (x < -(2 ^ 63)) || decide (x ≥ 2 ^ 63)) = false) (c1 : (items.isEmpty || x == 1) = true) :
    Meets (Builtin.«tuple.__mul__» ⟨[.ref l, .int x u], []⟩) (fun _ R s => s.heap.get? l = some { cls := .type "tuple", dict := dd, data := .seq items n, slots := sl } ∧
      R (.ok (.ret (Value.ref l))) s) :=
  .of_wp fun prog w A R s h => by
    obtain ⟨hp, g, d, tk, os⟩ := s
    obtain ⟨hl, h⟩ := h
    have f1 := AutoSeq1.idx_int
    wp_walk using wpAny_loadPart' hl
    repeat (first
      | (refine wpAny_ite_false (decide_eq_false (by rw [c0]; exact Bool.false_ne_true)) ?_; wp_walk using wpAny_loadPart' hl)
      | (refine wpAny_ite_true (decide_eq_true (by rw [c1])) ?_; wp_walk using wpAny_loadPart' hl))
    exact ⟨_, rfl, h⟩
def rRep01 (K : PySem.W.Frag) : R2 := fun x y H Q => ∃ l k xs, x = .ref l ∧ y = .int k ∧ SqT K H l xs ∧ xs ≠ [] ∧ ((k = 1 ∧ Q (.ref l) H) ∨ (k = 0 ∧ ∀ p, H p = none → Q (.ref p) (upd H p (.tup []))))
theorem op_rep01 {X : Cx} : OpR X (binaryOp .Mult) (rRep01 X.K) := by
  intro pins s σ H x y v u Q I rx ry h
  obtain ⟨l, k, xs, rfl, rfl, hT, hne, q⟩ := h
  cases rx
  obtain ⟨t, rfl⟩ := ry
  obtain ⟨its, r, ⟨⟨cls, dd, data, sl⟩, ho, hc, n, hd⟩, hs⟩ := I.tuple hT
  simp only at hc hd
  subst hc hd
  have hle : its.length = xs.length := r.length.symm
  have hn : its ≠ [] := fun e => hne (by
    rw [e] at hle
    exact List.eq_nil_of_length_eq_zero hle.symm)
  have hi : its.toArray.isEmpty = false := by
    cases its with
    | nil => exact absurd rfl hn
    | cons a b => rfl
  rcases q with ⟨rfl, q⟩ | ⟨rfl, q⟩
  · refine wpAny_binaryOp_repeat_ref (T := "tuple") (U := "int") (by decide) ⟨_, ho, rfl⟩ (fun s' => typeIs_int s' 1 t) noFill_tuple_mul F.fills_int_mul F.slot_int_rmul repeat_tuple F.slot_int_index.lookup
      (call_meets F.slot_int_rmul (typeIs_int s 1 t) F.entry_int_rmul (F.args_int_rmul_2 _ _) (int_rmul_tuple 1 t l its.toArray n dd sl)
        ⟨ho, rfl, ⟨_, ho, rfl⟩, call_meets F.slot_tuple_mul ⟨_, ho, rfl⟩ F.entry_tuple_mul (F.args_tuple_mul_2 _ _) (mul_once l its.toArray n dd sl 1 t (by decide) (by simp)) ⟨ho, ?_⟩⟩)
    exact ⟨.ref l, H, I, rfl, q⟩
  · refine wpAny_binaryOp_repeat_ref (T := "tuple") (U := "int") (by decide) ⟨_, ho, rfl⟩ (fun s' => typeIs_int s' 0 t) noFill_tuple_mul F.fills_int_mul F.slot_int_rmul repeat_tuple F.slot_int_index.lookup
      (call_meets F.slot_int_rmul (typeIs_int s 0 t) F.entry_int_rmul (F.args_int_rmul_2 _ _) (int_rmul_tuple 0 t l its.toArray n dd sl)
        ⟨ho, rfl, ⟨_, ho, rfl⟩, call_meets F.slot_tuple_mul ⟨_, ho, rfl⟩ F.entry_tuple_mul (F.args_tuple_mul_2 _ _) (mul_none l its.toArray n dd sl 0 t (by decide) (by rw [hi]; rfl) (by simp)) ⟨ho, ?_⟩⟩)
    exact ⟨.ref s.heap.objs.size, _, I.laid (t' := s.toks) (o := .tup []) (fun b ob q => Heap.get?_push_of_some _ q) (Nat.le_refl _) ⟨Nat.zero_le _, _, .nil, IsTup.new _ _⟩, rfl, q _ (I.hok.fresh (Nat.le_refl _))⟩
end LK
namespace LK
open PySem PySem.Spec PyProof.Rows L2
section
variable {X : Cx}
/-- C(), an error of the program's own without an __init__ -/
theorem pmk_own0 {C : Addr} {bmB : List Value} {B newId initId : String} {x : Str} {p pos : Pos} (F : ExcBaseFacts B newId initId bmB) (q : PySem.W.excIn X.K C bmB newId = true) (gC : X.mg x = some (.ref C)) (kC : PySem.W.keepIn X.K (.ref C) = true) (r : Raises X (.ref C)) (hg : Gl X x)
    (hdb : (x == ("__debug__" : Str)) = false := by decide) :
    PMk X (.Call (.Name x p) [] [] pos) (fun σ H Q => Q (.ref C) none H) := by
  intro pins s σ H Q I h
  refine wpAny_Call_Name_kw (ld_glob I hg gC ?_ hdb)
  refine PySem.W.callWith_K0 I.kIn kC ?_
  show wpAny _ _ (call (.ref C) []) _ _ _
  obtain ⟨bm, N, nm, qn, bs, hdct, sn, sub, ab, col, dd, k0, k1, k2, k3, k5, mN, hC, hN, hni, T⟩ := exc_obj I.kIn q
  refine wpAny_call_exc_subT F T hC hN hni (fun h' e hm => ?_) (by show 0 ≤ sizeLine; rw [sizeLine_eq]; omega)
  exact mk_of I hm r h (I.hok.gone hm.new)
end
/-- an error class of the program's own without an __init__ -/
structure OwnE (K : PySem.W.Frag) (mg : Str → Option Value) (x : Str) (C : Addr) : Prop where
  q : PySem.W.excIn K C [.type "ValueError", .type "Exception", .type "BaseException", .type "object"] "ValueError.__new__" = true
  g : mg x = some (.ref C)
  k : PySem.W.keepIn K (.ref C) = true
  s : PySem.W.subIn K (.ref C) (.type "BaseException") = some true
  t : PySem.W.typeIn K (.ref C) = some (.type "type")
theorem pmk_ownE {x : Str} {C : Addr} {p pos : Pos} (O : OwnE X.K X.mg x C) (hg : Gl X x) (hdb : (x == ("__debug__" : Str)) = false := by decide) : PMk X (.Call (.Name x p) [] [] pos) (fun σ H Q => Q (.ref C) none H) :=
  pmk_own0 PySem.F.excBase_ValueError O.q O.g O.k (raises_own O.s O.t) hg hdb
/-- a tuple times a number from 0 -/
def rRepG (K : PySem.W.Frag) : R2 := fun x y H Q => ∃ l k xs, x = .ref l ∧ y = .int k ∧ SqT K H l xs ∧ xs ≠ [] ∧ 0 ≤ k ∧ k ≤ 1000 ∧ xs.length ≤ 1000 ∧ (k = 1 → Q (.ref l) H) ∧ (k ≠ 1 → ∀ p, H p = none → Q (.ref p) (upd H p (.tup (List.replicate k.toNat xs).flatten)))
theorem op_repG {X : Cx} : OpR X (binaryOp .Mult) (rRepG X.K) := by
  intro pins s σ H x y v u Q I rx ry h
  obtain ⟨l, k, xs, rfl, rfl, hT, hne, h0, h1, hz, q1, q2⟩ := h
  by_cases e0 : k = 0
  · exact op_rep01 pins s σ H _ _ v u Q I rx ry ⟨l, k, xs, rfl, rfl, hT, hne, .inr ⟨e0, fun p np => by
      have z := q2 (by omega) p np
      rw [e0] at z
      exact z⟩⟩
  by_cases e1 : k = 1
  · exact op_rep01 pins s σ H _ _ v u Q I rx ry ⟨l, k, xs, rfl, rfl, hT, hne, .inl ⟨e1, q1 e1⟩⟩
  · exact op_repT pins s σ H _ _ v u Q I rx ry ⟨l, k, xs, rfl, rfl, hT, hne, by omega, h1, hz, q2 e1⟩
theorem takes_no {X : Cx} : Takes X (fun _ _ _ _ => False) := fun u s' ⟨_, _, _, _, _, _, _, _, _, _, _, _, _, _, _, _, w⟩ => w.elim
/-- return e, where e may raise -/
theorem ret_bodyT {Z : Cx} {W : WX} {e : Expr} {te : XK → TE} {p : Pos} (hp : ∀ E : XK, (∀ cls d σ H, E cls d H → W cls d σ H) → PE Z e (te E)) : PSs Z [.Return (some e) p] (fun D σ H => ∃ E : XK, (∀ cls d σ2 H2, E cls d H2 → W cls d σ2 H2) ∧ tRet (te E) D σ H) := by
  refine ⟨fun pins s σ H D I h => ?_⟩
  obtain ⟨E, hE, h1⟩ := h
  exact (pss_one (ps_ret (hp E hE))).run pins s σ H D I h1
end LK
namespace LK
open PySem PySem.Spec PyProof.Rows L2
section
variable {X : Cx} {pos : Pos}
/-- (x, *y) = a list of one value or more: y is a new list -/
def gStarL (K : PySem.W.Frag) (t u : TG) : TG := fun v σ H Q => ∃ l x xs, v = .ref l ∧ SqL K H l (x :: xs) ∧ ∀ p, H p = none → p ≠ sysModules → t x σ (upd H p (.lst xs)) fun σ1 H1 => u (.ref p) σ1 H1 Q
theorem pg_starL {e1 e2 : Expr} {q : Pos} {k : Nat} {t u : TG} (hc : X.calm = true) (h1 : PG X e1 t) (hu : PG X e2 u)
    (hlen : (assignEach [e1, .Starred e2 q] X.env).length = 2 := by rfl) (hst : (assignEach [e1, .Starred e2 q] X.env).findIdx? (·.1) = some 1 := by rfl) (hmap : (assignEach [e1, .Starred e2 q] X.env).map (·.2) = [assign e1 X.env, assign e2 X.env] := by rfl) : PG X (.Tuple [e1, .Starred e2 q] k pos) (gStarL X.K t u) := by
  refine ⟨fun pins s σ H v w Q I r hw => ?_⟩
  obtain ⟨l, x, xs, rfl, hq, hw⟩ := hw
  cases r
  obtain ⟨its, rv, pl, hz⟩ := I.list hq
  cases rv with
  | @cons _ u0 _ us r0 rr =>
  have il : s.heap.IsList l (u0 :: us).toArray := by
    obtain ⟨o, m, e, c, d, z⟩ := pl
    exact ⟨o, e, c, m, z⟩
  have lt : l < s.heap.objs.size := by
    obtain ⟨o, e, _⟩ := il
    exact Heap.lt_size e
  have ne : l ≠ s.heap.objs.size := Nat.ne_of_lt lt
  rw [assign_Tuple]
  refine wpAny_bind (m := standAt pos) (wpAny_standAt ?_)
  unfold unpack
  rw [hlen, hst, hmap]
  refine wpAny_bind (wpAny_holding (A := X.A) ?_)
  unfold unpackItems notIterableAtAll
  refine wpAny_bind (wpAny_bind (wpAny_specialOf il.typeIs slot_list_iter.lookup (wpAny_pure ?_)))
  simp only [if_false, Bool.false_eq_true]
  have few : (0 : Nat) + 1 ≤ (u0 :: us).toArray.size := by simp
  refine wpAny_bind (wpAny_holding (wpAny_pyIter_list il ?_))
  refine wpAny_bind (wpAny_holding (PySem.W.kun_draw ne 1 0 _ _ ⟨_, Heap.get?_push_size _ rfl, rfl, rfl⟩ (il.push _) few fun h' it' sb => ?_))
  have il' : h'.IsList l (u0 :: us).toArray := (il.push _).extBut sb.extBut ne
  have kp : ∀ b o, b ≠ s.heap.objs.size → s.heap.get? b = some o → h'.get? b = some o := fun b o nb e => sb.extBut b o nb (Heap.get?_push_of_some _ e)
  have e0 : List.take 1 (List.drop 0 (u0 :: us).toArray.toList) = [u0] := rfl
  have hsz : (u0 :: us).toArray.size ≤ sizeLine := by
    have := rr.length
    rw [List.length_cons] at hz
    rw [List.size_toArray, List.length_cons]
    omega
  rw [e0, if_neg (show ¬ [u0].length < 1 from Nat.lt_irrefl 1)]
  have stands : ∀ (j : Nat) (y : Shared), (y.heap.IsListIter s.heap.objs.size l j ∧ y.heap.IsList l (u0 :: us).toArray) → y.TypeIs (.ref s.heap.objs.size) "list_iterator" := fun j y st => st.1.typeIs
  have lI : s.heap.objs.size < h'.objs.size := by
    obtain ⟨o, e, _⟩ := it'
    exact Heap.lt_size e
  have lL : l < h'.objs.size := by
    obtain ⟨o, e, _⟩ := il'
    exact Heap.lt_size e
  refine wpAny_bind (wpAny_holding (PySem.W.kun_collect (T := "list_iterator") (Or.inr (Or.inr (Or.inl rfl))) (Walks.list (A := X.A.in1) (I.ok.hd hc) _ l ne (u0 :: us).toArray) stands (k := 1) few ⟨it', il'⟩ lI lL (fun h2 tk k2 => ?_) hsz))
  have old : ∀ b o, s.heap.get? b = some o → h2.get? b = some o := fun b o e => k2 b o (Nat.ne_of_lt (Heap.lt_size e)) (kp b o (Nat.ne_of_lt (Heap.lt_size e)) e)
  have ed : (u0 :: us).toArray.toList.drop 1 = us := rfl
  have J : Inv X pins σ H { s with heap := h2, toks := tk } := I.kept old
  have JN : Inv X pins σ (upd H h2.objs.size (.lst xs)) { s with heap := h2.push { cls := .type "list", data := .seq us.toArray }, toks := tk } := J.lnew (t' := tk) rr (by
    rw [List.length_cons] at hz
    omega)
  have fr : H h2.objs.size = none := J.fresh
  have et : List.take (us.length - (2 - 1 - 1)) us = us := List.take_of_length_le (Nat.le_refl _)
  have ez : List.drop (us.length - (2 - 1 - 1)) us = [] := List.drop_eq_nil_of_le (Nat.le_refl _)
  rw [ed, if_neg (Nat.not_lt_zero _), et, ez]
  have uz : us.length ≤ sizeLine := by
    rw [List.size_toArray, List.length_cons] at hsz
    omega
  refine wpAny_bind (wpAny_newList ?_ uz)
  refine wpAny_pure ?_
  have go := hw _ fr (Nat.ne_of_gt J.big)
  refine assignInOrder_cons (thn (h1.run pins _ σ _ x u0 _ JN r0 go) fun _ s1 ⟨σ1, H1, I1, q1⟩ => ?_)
  refine assignInOrder_cons (thn (hu.run pins s1 σ1 H1 (V.ref _) (Value.ref _) _ I1 rfl q1) fun _ s2 ⟨σ2, H2, I2, q2⟩ => ?_)
  exact assignInOrder_nil ⟨σ2, H2, I2, q2⟩
end
end LK
namespace LK
open PySem PySem.Spec PyProof.Rows L2
/-- as lco2F, with a test at the outer clause too: a turn that it leaves out gives nothing -/
theorem lco2T {J : It} {n : Nat} {Im : Nat → V → Hp → Prop} (outss : List (List (PyData × Bool))) {g : TG} {wi1 : TI} {g1 : TG} {tt tt1 : TT} {te : TE} {vs vs1 : List Nat} {σ : L2.St} {H1 : Hp} {D : Addr} {Qd : Hp → Prop}
    (w : Walk J n Im H1 D) (hl : outss.length = n) (hf : flatA (outss.flatten.map (·.1)) = true) (hz : outss.flatten.length ≤ sizeLine) (hD : H1 D = none)
    (turn : ∀ (i : Nat) (x : V) (os : List (PyData × Bool)) (H : Hp) (K0 : L2.St → L2.It → Hp → Prop) (K1 : Hp → Prop), i < n → Im i x H → outss[i]? = some os → Same H1 H → (∃ acc, H D = some (.lst acc)) →
      (∀ σ2 H4 J1 (It1 : Nat → V → Hp → Prop), Same H H4 → Walk J1 os.length It1 H4 D →
        (∀ (j : Nat) (y : V) (d : PyData) (c : Bool) (H5 : Hp) (R : V → Hp → Prop) (R0 : Hp → Prop), j < os.length → It1 j y H5 → os[j]? = some (d, c) → Sab D H4 H5 → (∃ acc, H5 D = some (.lst acc)) → (∀ v H6, c = true → Same H5 H6 → Dr H6 v d → R v H6) → (∀ H6, c = false → Same H5 H6 → R0 H6) → g1 y (wipe σ2 vs1) H5 fun σ3 H6 => wipe σ3 vs1 = wipe σ2 vs1 ∧ tt1 σ3 H6 fun b H7 => if b = true then te σ3 H7 R else R0 H7) → K0 σ2 J1 H4) →
      (∀ H3, Same H H3 → os = [] → K1 H3) → g x (wipe σ vs) H fun σ2 H2 => wipe σ2 vs = wipe σ vs ∧ tt σ2 H2 fun b H3 => if b = true then wi1 σ2 H3 fun J1 H4 => K0 σ2 J1 H4 else K1 H3)
    (k : ∀ H us, Same H1 H → DrAll H us (kept outss.flatten) → H D = some (.lst us) → Qd H) :
    ∃ W : Nat → Nat → Hp → Prop, (∃ m, W 0 m (upd H1 D (.lst []))) ∧ ∀ i m H, W i m H →
  (J.stop i H ∧ Qd H) ∨ (J.go i H ∧ ∃ Nx : Hp → Prop, (∀ H2, Nx H2 → ∃ m2, m2 < m ∧ W (i + 1) m2 H2) ∧ ∀ x H2, J.yld i H x H2 → g x (wipe σ vs) H2 fun σ2 H2 => wipe σ2 vs = wipe σ vs ∧ tt σ2 H2 fun b H3 =>
    if b = true then wi1 σ2 H3 fun J1 H4 => ∃ W1 : Nat → Nat → Hp → Prop, (∃ m, W1 0 m H4) ∧ ∀ j k H, W1 j k H →
      (J1.stop j H ∧ Nx H) ∨ (J1.go j H ∧ ∃ Nx1 : Hp → Prop, (∀ H2, Nx1 H2 → ∃ k2, k2 < k ∧ W1 (j + 1) k2 H2) ∧ ∀ x H2, J1.yld j H x H2 → g1 x (wipe σ2 vs1) H2 fun σ3 H5 => wipe σ3 vs1 = wipe σ2 vs1 ∧ tt1 σ3 H5 fun b H6 =>
        if b = true then te σ3 H6 fun y H7 => ∃ acc, H7 D = some (.lst acc) ∧ acc.length < sizeLine ∧ Nx1 (upd H7 D (.lst (acc ++ [y]))) else Nx1 H6)
    else Nx H3) := by
  refine ⟨fun i m H => m = n - i ∧ i ≤ n ∧ Sab D H1 H ∧ ∃ us, H D = some (.lst us) ∧ DrAll H us (kept (outss.take i).flatten), ⟨n, rfl, Nat.zero_le _, fun b o hb e => by rw [upd_ne hb]; exact e, [], upd_same, .nil⟩, ?_⟩
  rintro i m H ⟨rfl, hi, sb, us, hh, hus⟩
  by_cases lt : i < n
  · have lo : i < outss.length := by omega
    refine .inr ⟨w.go i H lt sb, fun H2 => i + 1 ≤ n ∧ Sab D H1 H2 ∧ ∃ us, H2 D = some (.lst us) ∧ DrAll H2 us (kept (outss.take (i + 1)).flatten), fun H2 z => ⟨n - (i + 1), by omega, rfl, z⟩, fun x H2 y => ?_⟩
    obtain ⟨s2, hx⟩ := w.yld i H x H2 sb lt y
    have sb2 : Sab D H1 H2 := sb.trans (sab_of s2)
    have hl2 := s2 _ _ hh
    have ho := List.getElem?_eq_getElem lo
    obtain ⟨rest, hrest⟩ := flatK_pre ho
    have hrl := congrArg List.length hrest
    rw [List.length_append, List.length_append] at hrl
    have hff : ∀ j, flatA (kept ((outss.take i).flatten ++ (outss[i]).take j)) = true := fun j => kept_flat (by
      rw [hrest, List.map_append, List.map_append, flatA_app, flatA_app, Bool.and_eq_true, Bool.and_eq_true] at hf
      rw [List.map_append, flatA_app, hf.1.1, List.map_take, flatA_take hf.1.2]
      rfl)
    refine turn i x _ H2 _ _ lt hx ho (sb2.same (Same.refl _) hD) ⟨_, hl2⟩ (fun σ2 H4 J1 It1 s4 w1 tn => ?_) (fun H3 s3 e0 => ⟨lt, sb2.trans (sab_of s3), us, s3 _ _ hl2, by rw [flatK ho, e0, List.append_nil]; exact (hus.mono s2).mono s3⟩)
    have sb4 : Sab D H1 H4 := sb2.trans (sab_of s4)
    refine ⟨fun j k H => k = (outss[i]).length - j ∧ j ≤ (outss[i]).length ∧ Sab D H4 H ∧ ∃ us, H D = some (.lst us) ∧ DrAll H us (kept ((outss.take i).flatten ++ (outss[i]).take j)), ⟨_, rfl, Nat.zero_le _, Sab.refl, us, s4 _ _ hl2, by rw [List.take_zero, List.append_nil]; exact (hus.mono s2).mono s4⟩, ?_⟩
    rintro j k H5 ⟨rfl, hj, sb5, us5, hh5, hus5⟩
    by_cases lj : j < (outss[i]).length
    · refine .inr ⟨w1.go j H5 lj sb5, fun H6 => j + 1 ≤ (outss[i]).length ∧ Sab D H4 H6 ∧ ∃ us, H6 D = some (.lst us) ∧ DrAll H6 us (kept ((outss.take i).flatten ++ (outss[i]).take (j + 1))), fun H6 z => ⟨(outss[i]).length - (j + 1), by omega, rfl, z⟩, fun y H6 yy => ?_⟩
      obtain ⟨s6, hy⟩ := w1.yld j H5 y H6 sb5 lj yy
      have sb6 : Sab D H4 H6 := sb5.trans (sab_of s6)
      have hl6 := s6 _ _ hh5
      have hj1 := List.getElem?_eq_getElem lj
      have hul := hus5.len
      have hkl := kept_len ((outss.take i).flatten ++ (outss[i]).take j)
      rw [List.length_append, List.length_take] at hkl
      have e1 : (outss.take i).flatten ++ (outss[i]).take (j + 1) = ((outss.take i).flatten ++ (outss[i]).take j) ++ [(outss[i])[j]] := by
        rw [List.take_add_one, hj1, List.append_assoc]
        rfl
      refine tn j y ((outss[i])[j]).1 ((outss[i])[j]).2 H6 _ _ lj hy hj1 sb6 ⟨_, hl6⟩ (fun v H7 hc s7 hv => ?_) (fun H7 hc s7 => ?_)
      · have h7 := s7 _ _ hl6
        have hus7 := (hus5.mono s6).mono s7
        refine ⟨_, h7, ?_, lj, (sb6.trans (sab_of s7)).upd, us5 ++ [v], upd_same, ?_⟩
        · have z1 : (outss.take i).flatten.length + (outss[i]).length ≤ sizeLine := by omega
          omega
        · have st := sab_tups (H1 := upd H7 D (.lst (us5 ++ [v]))) h7 Sab.refl.upd
          have f1 := hff (j + 1)
          rw [e1, kept_app, kept_one, hc, if_pos rfl] at f1 ⊢
          exact (hus7.snoc hv).tups st f1
      · refine ⟨lj, sb6.trans (sab_of s7), us5, s7 _ _ hl6, ?_⟩
        rw [e1, kept_app, kept_one, hc, if_neg (by decide), List.append_nil]
        exact (hus5.mono s6).mono s7
    · have e : j = (outss[i]).length := by omega
      subst e
      rw [List.take_length] at hus5
      exact .inl ⟨w1.stop H5 sb5, lt, sb4.trans sb5, us5, hh5, by rw [flatK ho]; exact hus5⟩
  · have e : i = n := by omega
    subst e
    rw [List.take_of_length_le (by omega)] at hus
    exact .inl ⟨w.stop H sb, k H us (sb.same (Same.refl _) hD) hus hh⟩
end LK
namespace LK
open PySem PySem.Spec PyProof.Rows L2

abbrev sLnm : Stmt := topS 32
theorem scLnm : FnScope ["_law_said", "_law_sign"] ["_law_said"] (defScope sLnm) := ⟨rfl, rfl, rfl, by decide +kernel, rfl, by decide +kernel, by decide +kernel⟩
section
variable {P : Program} {w : World} {K : PySem.W.Frag} {mg : Str → Option Value} {base : Heap}
theorem ok_Lnm {f : Addr} {fd : FuncData} {k : Nat} (F : Fun K "_law_is_name" "_law_is_name" sLnm f fd) (T : Bl mg) : FnOk P w K mg base CX0 (k + 1) f fd ["_law_said"] (spB isNameD) := by
  refine F.ok scLnm (fun vs H Q E h => ?_) (fun cdv A outer s H vs Q E hr h => ?_)
  · obtain ⟨v, d, rfl, _⟩ := h
    rfl
  · obtain ⟨v, d, rfl, hd, hf, q⟩ := h
    have ksz : 1000000 ≤ sizeLine := by decide
    refine ⟨_, (pss_cons (ps_if (PW.pt (pw_or (pt_not (pt_val (pe_callB call_isi (by rfl) T.isi (by decide +kernel) (pa_cons (pv 0) (pa_cons (pe_bltn (v := .ty "str") (u := .type "str") rfl T.str (by decide +kernel) rfl) pa_nil))))) (pw_or1 (pt_not (pt_chain op_lt op_lt pe_int (pe_callB call_len_str (by rfl) T.len PySem.boot_len (pa_cons (pv 0) pa_nil)) pe_int))))) (pss_one (ps_ret pe_bl)) pss_nil)
      (pss_one (ps_ret (pe_callB (cr_all rfl) (by rfl) T.all (by decide +kernel) (pa_cons (pe_lc (own := [("_law_sign", 1)]) rfl scLnm.nd (pi_str (pv 0)) (blkOk_by (N := ["_law_said", "_law_sign"]) (sc := defScope sLnm) (by decide +kernel)) (fun _ _ _ _ _ => (pg_name (i := 1) scLnm.nd rfl (Or.inl rfl))) (fun _ _ _ _ _ => pts_nil) (fun _ _ _ _ _ => (pe_cmpR op_in_sign (pv 1) pe_str rfl))) pa_nil))))), ?_⟩
    rw [show L2.start ["_law_said", "_law_sign"] [v] = [some v, none] from rfl]
    dsimp only [cxOf, Cx.nox, Cx.wish]
    with_reducible refine go_seq ?_
    with_reducible refine g_if ?_
    with_reducible refine g_or ?_
    with_reducible refine g_not ?_
    with_reducible refine g_tb ?_
    refine ⟨_, rfl, ?_⟩
    dsimp only [tC, tNil, tCons]
    refine isi_str hd ⟨_, rfl, ?_⟩
    cases hd with
    | str z =>
      have hz : z.length ≤ sizeLine := by
        have h1 : z.length + 1 ≤ 1000000 := hf
        omega
      refine if_f rfl ?_
      with_reducible refine g_not ?_
      have ch : ∀ (Q2 : Bool → Hp → Prop), Q2 (decide (0 < z.length ∧ z.length < 9)) H → tTest (tChain (rI0 fun i j => V.bl (decide (i < j))) (rI0 fun i j => V.bl (decide (i < j))) (tC (V.int 0)) (tCB (fun xs H Q => ∃ z, xs = [V.str z] ∧ z.length ≤ sizeLine ∧ Q (V.int ↑z.length) H) (tCons (tVar 0) tNil)) (tC (V.int 9))) [some (.str z), none] H Q2 := fun Q2 h => by
        refine ⟨_, rfl, z, rfl, hz, 0, _, rfl, rfl, _, rfl, ?_⟩
        by_cases h0 : (0 : Int) < z.length
        · refine if_t (decide_eq_true h0) ⟨_, _, rfl, rfl, _, rfl, ?_⟩
          have e : decide ((z.length : Int) < 9) = decide (0 < z.length ∧ z.length < 9) := decide_eq_decide.mpr (by omega)
          rw [e]
          exact h
        · refine if_f (decide_eq_false h0) ⟨_, rfl, ?_⟩
          have e : decide (0 < z.length ∧ z.length < 9) = false := decide_eq_false (by omega)
          rw [← e]
          exact h
      refine ch _ ?_
      by_cases hb : 0 < z.length ∧ z.length < 9
      · rw [decide_eq_true hb]
        refine if_f rfl ?_
        with_reducible refine go_next ?_
        with_reducible refine g_ret ?_
        with_reducible refine g_cb ?_
        have e1 : (signs z).length = z.length := by
          unfold signs
          rw [List.length_map, Array.length_toList]
          rfl
        refine ⟨_, rfl, z, rfl, fun D nD => lco (n := (signs z).length) (It := ItL (signs z)) (z.cps.toList.map fun c => some (V.bl (decide (c ∈ nameZ.cps.toList)))) walk_signs (by unfold signs; rw [List.length_map, List.length_map]) (by omega) nD (fun i x o H2 R R0 lt hx ho s2 r1 r0 => ?_) (fun H2 s2 hD => ?_)⟩
        · unfold ItL signs at hx
          rw [List.getElem?_map] at hx ho
          cases hc : z.cps.toList[i]? with
          | none =>
            rw [hc] at hx
            cases hx
          | some c =>
            rw [hc] at hx ho
            cases hx
            cases ho
            exact ⟨rfl, _, rfl, c, _, rfl, rfl, r1 _ _ rfl (Same.refl _)⟩
        · rw [keep_some] at hD
          refine ⟨D, z.cps.toList.map fun c => decide (c ∈ nameZ.cps.toList), rfl, SqL.of (by rw [hD, List.map_map]; rfl), ?_⟩
          have e : (z.cps.toList.map fun c => decide (c ∈ nameZ.cps.toList)).all id = isNameD (.str z) := by
            rw [List.all_map]
            simp only [isNameD, isNameS, decide_eq_true (show 1 ≤ z.length by omega), decide_eq_true (show z.length ≤ 8 by omega), Bool.true_and]
            rfl
          rw [e]
          exact q H2 s2
      · rw [decide_eq_false hb]
        refine if_t rfl ?_
        with_reducible refine g_ret ?_
        have e : isNameD (.str z) = false := by
          by_cases h1 : 1 ≤ z.length
          · have h2 : ¬ z.length ≤ 8 := by omega
            simp [isNameD, isNameS, h2]
          · simp [isNameD, isNameS, h1]
        have r := q H (Same.refl _)
        rw [e] at r
        exact r
    | non => exact if_t rfl (if_t rfl (q H (Same.refl _)))
    | bl b => exact if_t rfl (if_t rfl (q H (Same.refl _)))
    | int i => exact if_t rfl (if_t rfl (q H (Same.refl _)))
    | lst h1 h2 => exact if_t rfl (if_t rfl (q H (Same.refl _)))
    | tup h1 h2 => exact if_t rfl (if_t rfl (q H (Same.refl _)))
    | dct h1 => exact if_t rfl (if_t rfl (q H (Same.refl _)))
end
abbrev sFrw : Stmt := topS 14
theorem scFrw : FnScope ["word", "names"] ["word", "names"] (defScope sFrw) := ⟨rfl, rfl, rfl, by decide +kernel, rfl, by decide +kernel, by decide +kernel⟩
def spFrw (K : PySem.W.Frag) : Sp := fun vs H Q _ => ∃ (w : Str) (p : Addr) (zs : List Str), vs = [.str w, .ref p] ∧ (SqT K H p (zs.map V.str) ∨ SqL K H p (zs.map V.str)) ∧ jl (w :: zs) ≤ 800000 ∧ ∀ H2, Same H H2 → Q (.str (Txt.join " " (w :: zs))) H2
section
variable {P : Program} {w : World} {K : PySem.W.Frag} {mg : Str → Option Value} {base : Heap}
theorem ok_Frw {f : Addr} {fd : FuncData} {k : Nat} (F : Fun K "format_row" "format_row" sFrw f fd) (T : Bl mg) : FnOk P w K mg base CX0 (k + 1) f fd ["word", "names"] (spFrw K) := by
  refine F.ok scFrw (fun vs H Q E h => ?_) (fun cdv A outer s H vs Q E hr h => ?_)
  · obtain ⟨w, p, zs, rfl, _⟩ := h
    rfl
  · obtain ⟨w, p, zs, rfl, hp, hl, q⟩ := h
    have ksz : 1000000 ≤ sizeLine := by decide
    refine ⟨_, (pss_one (ps_ret (pe_bm PySem.F.plainAttrs_str PySem.F.slot_str_join PySem.F.type_str_join mt_join pe_str (pa_cons (pe_lst (pa_cons (pv 0) (StX.pa_star (pv 1) pa_nil))) pa_nil)))), ?_⟩
    rw [show L2.start ["word", "names"] [.str w, .ref p] = [some (.str w), some (.ref p)] from rfl]
    try dsimp only [cxOf, Cx.nox, Cx.wish]
    with_reducible refine g_ret ?_
    have e : V.str w :: (zs.map V.str ++ []) = (w :: zs).map V.str := by rw [List.append_nil]; rfl
    have hln := jl_len (w :: zs)
    refine ⟨rfl, _, rfl, _, rfl, p, _, rfl, hp, ?_⟩
    show (V.str w :: (zs.map V.str ++ [])).length ≤ sizeLine ∧ _
    rw [e]
    refine ⟨by rw [List.length_map]; omega, fun l nl => ⟨_, l, w :: zs, rfl, rfl, .inl (SqL.of upd_same), by rw [join_room sep_sp]; omega, q _ (same_upd nl)⟩⟩
abbrev sFmp : Stmt := topS 15
theorem scFmp : FnScope ["program", "defines", "needs"] ["program"] (defScope sFmp) := ⟨rfl, rfl, rfl, by decide +kernel, rfl, by decide +kernel, by decide +kernel⟩
def spFmp : Sp := fun vs H Q _ => ∃ (v : V) (a b : List Str), vs = [v] ∧ Dr H v (.tuple [strsD a, strsD b]) ∧ jl a ≤ 300000 ∧ jl b ≤ 300000 ∧ ∀ H2, Same H H2 → Q (.str (progT a b)) H2
theorem orDash_jl (a : List Str) : jl (orDash a) ≤ jl a + 2 := by
  unfold orDash
  split
  · have e : jl [dashS] = 2 := by decide +kernel
    omega
  · omega
theorem rowT_jl {w : Str} (hw : w = dfnS ∨ w = ndsS) (a : List Str) : jl (w :: orDash a) ≤ jl a + 12 := by
  have k := orDash_jl a
  have e1 : dfnS.length = 7 := by decide +kernel
  have e2 : ndsS.length = 5 := by decide +kernel
  rw [jl_cons]
  rcases hw with rfl | rfl <;> omega
theorem ok_Fmp {f : Addr} {fd : FuncData} {k : Nat} (F : Fun K "format_program" "format_program" sFmp f fd) (T : Bl mg) (LFrw : Lnk P w K mg base "format_row" k ["word", "names"] (spFrw K)) : FnOk P w K mg base CX0 (k + 1) f fd ["program"] spFmp := by
  refine F.ok scFmp (fun vs H Q E h => ?_) (fun cdv A outer s H vs Q E hr h => ?_)
  · obtain ⟨v, a, b, rfl, _⟩ := h
    rfl
  · obtain ⟨v, a, b, rfl, hv, ha, hb, q⟩ := h
    have ksz : 1000000 ≤ sizeLine := by decide
    refine ⟨_, (pss_cons (ps_asg (pv 0) (pg_tup rfl (pgs_cons (pg_name (i := 1) scFmp.nd rfl (Or.inl rfl)) (pgs_cons (pg_name (i := 2) scFmp.nd rfl (Or.inl rfl)) pgs_nil))))
      (pss_one (ps_ret (pe_op op_add_str (pe_op op_add_str (pe_lnk LFrw hr rfl (pa_cons pe_str (pa_cons (pe_orT (pv 1) (pe_one (pe_tup (pa_cons pe_str pa_nil)))) pa_nil))) pe_str) (pe_lnk LFrw hr rfl (pa_cons pe_str (pa_cons (pe_orT (pv 2) (pe_one (pe_tup (pa_cons pe_str pa_nil)))) pa_nil))))))), ?_⟩
    rw [show L2.start ["program", "defines", "needs"] [v] = [some v, none, none] from rfl]
    dsimp only [cxOf, Cx.nox, Cx.wish]
    obtain ⟨pv, p1, p2, rfl, hpv, h1, h2⟩ : ∃ pv p1 p2, v = .ref pv ∧ H pv = some (.tup [.ref p1, .ref p2]) ∧ H p1 = some (.tup (a.map V.str)) ∧ H p2 = some (.tup (b.map V.str)) := by
      cases hv with
      | tup hp hal =>
        cases hal with
        | cons x1 hal =>
          cases hal with
          | cons x2 hal =>
            cases hal
            obtain ⟨p1, rfl, k1⟩ := dr_strsD x1
            obtain ⟨p2, rfl, k2⟩ := dr_strsD x2
            exact ⟨_, p1, p2, rfl, hp, k1, k2⟩
    have ex : progT a b = rowT dfnS a ++ "\n" ++ rowT ndsS b := by
      unfold progT
      rw [TL.join_eq]
      rfl
    have j1 := rowT_jl (w := dfnS) (.inl rfl) a
    have j2 := rowT_jl (w := ndsS) (.inr rfl) b
    have l1 := joinT_le sep_sp (dfnS :: orDash a)
    have l2 := joinT_le sep_sp (ndsS :: orDash b)
    have e1 : ("\n" : Str).length = 1 := by decide +kernel
    have or : ∀ (G : Hp) (p : Addr) (i : Nat) (σ : L2.St) (zs : List Str) (Q2 : VK), σ[i]? = some (some (.ref p)) → G p = some (.tup (zs.map V.str)) → (∀ p3 G2, Same G G2 → G2 p3 = some (.tup ((orDash zs).map V.str)) → Q2 (.ref p3) G2) → tOrT K (tVar i) (tTup (tCons (tC (V.str (Str.ofString "-"))) tNil)) σ G Q2 := fun G p i σ zs Q2 hi hp k => by
      refine ⟨_, hi, _, .inr (.inl ⟨_, SqT.of hp, rfl⟩), ?_⟩
      unfold orDash at k
      cases zs with
      | nil =>
        exact if_f rfl ⟨(show 1 ≤ sizeLine by decide), fun p3 np3 => k p3 _ (same_upd np3) upd_same⟩
      | cons z zs =>
        rw [if_neg (by simp)] at k
        exact if_t rfl (k p G (Same.refl _) hp)
    with_reducible refine go_seq ?_
    with_reducible refine go_asgT ?_
    refine ⟨_, rfl, pv, _, rfl, SqT.of hpv, rfl, _, _, rfl, _, _, rfl, rfl, ?_⟩
    with_reducible refine g_ret ?_
    refine or H p1 1 _ a _ rfl h1 fun p3 G3 s3 hp3 => ⟨_, p3, orDash a, rfl, .inl (SqT.of hp3), by show jl (dfnS :: orDash a) ≤ 800000; omega, fun G4 s4 => ⟨_, _, rfl, rfl, ?_, ?_⟩⟩
    · show (Txt.join " " (dfnS :: orDash a)).length + ("\n" : Str).length ≤ _
      omega
    have s14 := same_tr s3 s4
    refine or G4 p2 2 _ b _ rfl (s14 _ _ h2) fun p5 G5 s5 hp5 => ⟨_, p5, orDash b, rfl, .inl (SqT.of hp5), by show jl (ndsS :: orDash b) ≤ 800000; omega, fun G6 s6 => ⟨_, _, rfl, rfl, ?_, ?_⟩⟩
    · rw [str_len_append]
      show (Txt.join " " (dfnS :: orDash a)).length + ("\n" : Str).length + (Txt.join " " (ndsS :: orDash b)).length ≤ _
      omega
    · have r := q G6 (same_tr s14 (same_tr s5 s6))
      rw [ex] at r
      exact r
abbrev sArn : Stmt := topS 17
theorem scArn : FnScope ["values", "value"] ["values"] (defScope sArn) := ⟨rfl, rfl, rfl, by decide +kernel, rfl, by decide +kernel, by decide +kernel⟩
def spArn : Sp := fun vs H Q _ => ∃ (p : Addr) (zs : List Str), vs = [.ref p] ∧ H p = some (.lst (zs.map V.str)) ∧ zs.length ≤ 500000 ∧ (∀ z ∈ zs, z.length ≤ 500000) ∧ ∀ H2, Same H H2 → Q (.bl (decide (0 < zs.length) && zs.all isNameS)) H2
theorem ok_Arn {f : Addr} {fd : FuncData} {k : Nat} (F : Fun K "are_names" "are_names" sArn f fd) (T : Bl mg) (LNm : Lnk P w K mg base "is_name" k ["value"] (spB isNameD)) : FnOk P w K mg base CX0 (k + 1) f fd ["values"] spArn := by
  refine F.ok scArn (fun vs H Q E h => ?_) (fun cdv A outer s H vs Q E hr h => ?_)
  · obtain ⟨p, zs, rfl, _⟩ := h
    rfl
  · obtain ⟨p, zs, rfl, hp, hl, hz, q⟩ := h
    refine ⟨_, (pss_one (ps_ret (pe_and (pe_cmpR op_gt (pe_callB call_len_seq (by rfl) T.len PySem.boot_len (pa_cons (pv 0) pa_nil)) pe_int (nomark _)) (pe_one (pe_callB (cr_all rfl) (by rfl) T.all (by decide +kernel) (pa_cons (pe_lc (own := [("value", 1)]) rfl scArn.nd (pi_list (pv 0)) (blkOk_by (N := ["values", "value"]) (sc := defScope sArn) (by decide +kernel)) (fun _ _ _ _ _ => (pg_name (i := 1) scArn.nd rfl (Or.inl rfl))) (fun _ _ _ _ _ => pts_nil) (fun _ _ _ _ _ => (pe_lnk LNm hr rfl (pa_cons (pv 1) pa_nil)))) pa_nil)))))), ?_⟩
    rw [show L2.start ["values", "value"] [.ref p] = [some (.ref p), none] from rfl]
    dsimp only [cxOf, Cx.nox, Cx.wish]
    with_reducible refine g_ret ?_
    refine ⟨_, rfl, p, _, rfl, .inl (SqL.of hp), _, _, rfl, rfl, _, rfl, ?_⟩
    rw [List.length_map]
    have ksz : 1000000 ≤ sizeLine := by decide
    by_cases hz0 : 0 < zs.length
    · refine if_t (decide_eq_true (by omega)) ?_
      with_reducible refine g_cb ?_
      refine ⟨_, rfl, p, rfl, ⟨_, SqL.of hp⟩, fun D nD => lco (zs.map fun z => some (V.bl (isNameS z))) (walk_lst hp nD) (by rw [List.length_map, List.length_map]) (by rw [List.length_map]; omega) nD (fun t x o H2 R R0 lt hx ho s2 r1 r0 => ?_) (fun H2 s2 hD => ?_)⟩
      · have hx1 : (zs.map V.str)[t]? = some x := hx
        rw [List.getElem?_map] at hx1 ho
        cases hq : zs[t]? with
        | none =>
          rw [hq] at hx1
          cases hx1
        | some z =>
          rw [hq] at hx1 ho
          cases hx1
          cases ho
          have hzl := hz z (List.mem_of_getElem? hq)
          exact ⟨rfl, _, rfl, V.str z, .str z, rfl, .str z, (by show z.length + 1 ≤ 1000000; omega), fun H3 s3 => r1 _ _ rfl s3⟩
      · rw [keep_some] at hD
        have r := q H2 s2
        rw [decide_eq_true hz0, Bool.true_and] at r
        refine ⟨D, zs.map isNameS, rfl, SqL.of (by rw [hD, List.map_map]; rfl), ?_⟩
        rw [List.all_map]
        exact r
    · refine if_f (decide_eq_false (by omega)) ?_
      have r := q H (Same.refl _)
      rw [decide_eq_false hz0] at r
      exact r
abbrev sIpr : Stmt := topS 18
theorem scIpr : FnScope ["row", "word", "names"] ["row"] (defScope sIpr) := ⟨rfl, rfl, rfl, by decide +kernel, rfl, by decide +kernel, by decide +kernel⟩
def spIpr : Sp := fun vs H Q _ => ∃ (r : Str), vs = [.str r] ∧ r.length ≤ 100000 ∧ ∀ H2, Same H H2 → Q (.bl (rowP r).isSome) H2
theorem ok_Ipr {f : Addr} {fd : FuncData} {k : Nat} (F : Fun K "is_program_row" "is_program_row" sIpr f fd) (T : Bl mg) (LArn : Lnk P w K mg base "are_names" k ["values"] spArn) : FnOk P w K mg base CX0 (k + 1) f fd ["row"] spIpr := by
  refine F.ok scIpr (fun vs H Q E h => ?_) (fun cdv A outer s H vs Q E hr h => ?_)
  · obtain ⟨r, rfl, _⟩ := h
    rfl
  · obtain ⟨r, rfl, hl, q⟩ := h
    have hu : (A.deeper (envOfC "is_program_row" (defScope sIpr) s.heap.objs.size f cdv)).units + 64 < cLine := hr.units
    have ksz : 1000000 ≤ sizeLine := by decide
    refine ⟨_, (pss_cons (ps_asg (pe_bm PySem.F.plainAttrs_str PySem.F.slot_str_split PySem.F.type_str_split mt_split (pv 0) (pa_cons pe_str pa_nil)) (pg_starL rfl (pg_name (i := 1) scIpr.nd rfl (Or.inl rfl)) (pg_name (i := 2) scIpr.nd rfl (Or.inl rfl))))
      (pss_one (ps_ret (pe_and (pe_cmpR (show OpR _ (compareOp .In) (rIn K false) from op_in_seq) (pv 1) (pe_tup (pa_cons pe_str (pa_cons pe_str pa_nil))) rfl) (pe_one (pe_or (pe_cmpR (op_eqSS hu) (pv 2) (pe_lst (pa_cons pe_str pa_nil)) (nomark _)) (pe_one (pe_lnk LArn hr rfl (pa_cons (pv 2) pa_nil))))))))), ?_⟩
    rw [show L2.start ["row", "word", "names"] [.str r] = [some (.str r), none, none] from rfl]
    dsimp only [cxOf, Cx.nox, Cx.wish]
    have few := split_few (x := r) sep_sp
    have ne := split_ne (x := r) sep_sp
    have short : ∀ p ∈ Txt.split r " ", p.length ≤ r.length := fun p hp => split_short sep_sp hp
    unfold rowP at q
    with_reducible refine go_seq ?_
    with_reducible refine go_asgT ?_
    refine ⟨_, rfl, rfl, _, _, rfl, rfl, by decide +kernel, by omega, fun l nl => ?_⟩
    have i1 := same_upd (o := .lst ((Txt.split r " ").map V.str)) nl
    have h1 := upd_same (H := H) (a := l) (o := .lst ((Txt.split r " ").map V.str))
    change gStarL _ _ _ _ _ (upd _ _ _) _
    generalize upd H l _ = G1 at i1 h1 ⊢
    generalize Txt.split r " " = ws at *
    obtain ⟨v, zs, rfl⟩ : ∃ v zs, ws = v :: zs := by
      cases ws with
      | nil => exact absurd rfl ne
      | cons v zs => exact ⟨v, zs, rfl⟩
    refine ⟨l, V.str v, zs.map V.str, rfl, SqL.of h1, fun p2 np2 nsp2 => ?_⟩
    have i2 := same_upd (o := .lst (zs.map V.str)) np2
    have h2 := upd_same (H := G1) (a := p2) (o := .lst (zs.map V.str))
    have s2 := same_tr i1 i2
    generalize upd G1 p2 (.lst (zs.map V.str)) = G2 at s2 h2 ⊢
    with_reducible refine go_name ?_
    with_reducible refine go_name ?_
    change Ends.nx _ _ _
    dsimp only [List.set]
    have hmem : ∀ (Q2 : VK), (∀ G3, Same G2 G3 → Q2 (.bl (decide (v = dfnS ∨ v = ndsS))) G3) → tOp (rIn K false) (tVar 1) (tTup (tCons (tC (V.str (Str.ofString "defines"))) (tCons (tC (V.str (Str.ofString "needs"))) tNil))) [some (V.str r), some (V.str v), some (V.ref p2)] G2 Q2 := fun Q2 h => by
      refine ⟨_, rfl, (show 2 ≤ sizeLine by decide), fun t nt => ⟨t, _, rfl, .inr (SqT.of upd_same), rfl, rfl, ?_⟩⟩
      have k := h _ (same_upd (o := .tup [V.str (Str.ofString "defines"), V.str (Str.ofString "needs")]) nt)
      have e : inV (V.str v) [V.str (Str.ofString "defines"), V.str (Str.ofString "needs")] = decide (v = dfnS ∨ v = ndsS) := by
        rw [Bool.eq_iff_iff, decide_eq_true_iff]
        unfold inV
        simp only [List.any_cons, List.any_nil, Bool.or_false, Bool.or_eq_true]
        show ((dfnS == v) = true ∨ (ndsS == v) = true) ↔ _
        rw [beq_iff_eq, beq_iff_eq]
        exact ⟨fun h => h.elim (fun e => .inl e.symm) fun e => .inr e.symm, fun h => h.elim (fun e => .inl e.symm) fun e => .inr e.symm⟩
      rw [if_neg Bool.false_ne_true, e]
      exact k
    with_reducible refine g_ret ?_
    refine hmem _ fun G3 s3 => ⟨_, rfl, ?_⟩
    have hz2 : ∀ z ∈ zs, z.length ≤ r.length := fun z hz => short z (List.mem_cons_of_mem _ hz)
    have hfew : zs.length ≤ r.length := by
      rw [List.length_cons] at few
      omega
    have h23 := s3 _ _ h2
    have s23 := same_tr s2 s3
    have q : ∀ H2, Same H H2 → Q (.bl (if v = dfnS ∨ v = ndsS then (if zs = [dashS] then some (v, []) else if 0 < zs.length ∧ zs.all isNameS = true then some (v, zs) else none) else none).isSome) H2 := q
    by_cases hv : v = dfnS ∨ v = ndsS
    · rw [if_pos hv] at q
      refine if_t (decide_eq_true hv) ?_
      refine ⟨_, rfl, (show 1 ≤ sizeLine by decide), fun t nt => ⟨p2, t, zs, [dashS], rfl, rfl, same_upd nt _ _ h23, upd_same, _, rfl, ?_⟩⟩
      have st := same_upd (o := .lst [V.str dashS]) nt
      rw [if_neg Bool.false_ne_true]
      by_cases hd : zs = [dashS]
      · rw [if_pos hd] at q
        exact if_t (decide_eq_true hd) (q _ (same_tr s23 st))
      · rw [if_neg hd] at q
        refine if_f (decide_eq_false hd) ⟨_, rfl, p2, zs, rfl, st _ _ h23, by omega, fun z hz => by have := hz2 z hz; omega, fun G4 s4 => ?_⟩
        have z := q G4 (same_tr s23 (same_tr st s4))
        by_cases hn : 0 < zs.length ∧ zs.all isNameS = true
        · rw [if_pos hn] at z
          rw [decide_eq_true hn.1, hn.2]
          exact z
        · rw [if_neg hn] at z
          have e : (decide (0 < zs.length) && zs.all isNameS) = false := by
            cases hq : (decide (0 < zs.length) && zs.all isNameS) with
            | false => rfl
            | true =>
              obtain ⟨h1, h2⟩ := Bool.and_eq_true_iff.mp hq
              exact absurd ⟨of_decide_eq_true h1, h2⟩ hn
          rw [e]
          exact z
    · rw [if_neg hv] at q
      exact if_f (decide_eq_false hv) (q _ s23)
end
def markS (z : Str) : PyData × Bool := (.str z, !decide (z = dashS))
def outsB (rows : List (List Str)) (w : Str) : List (List (PyData × Bool)) := rows.map fun r => if r.head? = some w then (r.drop 1).map markS else []
theorem kept_marks : ∀ zs : List Str, kept (zs.map markS) = (zs.filter fun z => !decide (z = dashS)).map PyData.str
  | [] => rfl
  | z :: zs => by
    have ih := kept_marks zs
    have e : kept ((z :: zs).map markS) = kept [markS z] ++ kept (zs.map markS) := kept_app [markS z] _
    rw [e, kept_one, ih, List.filter_cons]
    show (if (!decide (z = dashS)) = true then [PyData.str z] else []) ++ _ = _
    split <;> rfl
theorem kept_behind (w : Str) : ∀ rows : List (List Str), kept (outsB rows w).flatten = (behindL rows w).map PyData.str
  | [] => rfl
  | r :: rows => by
    have ih := kept_behind w rows
    have e1 : (outsB (r :: rows) w).flatten = (if r.head? = some w then (r.drop 1).map markS else []) ++ (outsB rows w).flatten := rfl
    have e2 : behindL (r :: rows) w = (if r.head? = some w then (r.drop 1).filter (fun z => !decide (z = dashS)) else []) ++ behindL rows w := rfl
    rw [e1, e2, kept_app, ih, List.map_append]
    split
    · rw [kept_marks]
    · rfl
theorem outsB_flat (rows : List (List Str)) (w : Str) : flatA ((outsB rows w).flatten.map (·.1)) = true := flatA_of fun d hd => by
  obtain ⟨pr, h1, rfl⟩ := List.mem_map.mp hd
  obtain ⟨os, h2, h3⟩ := List.mem_flatten.mp h1
  obtain ⟨r, _, rfl⟩ := List.mem_map.mp h2
  split at h3
  · obtain ⟨z, _, rfl⟩ := List.mem_map.mp h3
    rfl
  · cases h3
theorem outsB_len {w : Str} : ∀ {rows : List (List Str)}, (outsB rows w).flatten.length ≤ (rows.map List.length).sum
  | [] => Nat.zero_le _
  | r :: rows => by
    have ih := outsB_len (w := w) (rows := rows)
    have e1 : (outsB (r :: rows) w).flatten = (if r.head? = some w then (r.drop 1).map markS else []) ++ (outsB rows w).flatten := rfl
    rw [e1, List.length_append, List.map_cons, List.sum_cons]
    have k2 : (if r.head? = some w then (r.drop 1).map markS else []).length ≤ r.length := by
      split
      · rw [List.length_map, List.length_drop]
        omega
      · exact Nat.zero_le _
    omega
abbrev sNbh : Stmt := topS 19
theorem scNbh : FnScope ["rows", "word", "row", "name"] ["rows", "word"] (defScope sNbh) := ⟨rfl, rfl, rfl, by decide +kernel, rfl, by decide +kernel, by decide +kernel⟩
def spNbh : Sp := fun vs H Q _ => ∃ (p : Addr) (w : Str) (qs : List V) (rows : List (List Str)), vs = [.ref p, .str w] ∧ H p = some (.lst qs) ∧ qs.length = rows.length ∧ (∀ (i : Nat) (r : List Str), rows[i]? = some r → ∃ q, qs[i]? = some (.ref q) ∧ H q = some (.lst (r.map V.str)) ∧ r ≠ []) ∧ (rows.map List.length).sum ≤ 500000 ∧ rows.length ≤ 500000 ∧ ∀ u H2, Same H H2 → Dr H2 u (strsD (behindL rows w)) → Q u H2
section
variable {P : Program} {w : World} {K : PySem.W.Frag} {mg : Str → Option Value} {base : Heap}
theorem ok_Nbh {f : Addr} {fd : FuncData} {k : Nat} (F : Fun K "names_behind" "names_behind" sNbh f fd) (T : Bl mg) : FnOk P w K mg base CX0 (k + 1) f fd ["rows", "word"] spNbh := by
  refine F.ok scNbh (fun vs H Q E h => ?_) (fun cdv A outer s H vs Q E hr h => ?_)
  · obtain ⟨p, w, qs, rows, rfl, _⟩ := h
    rfl
  · obtain ⟨p, w, qs, rows, rfl, hp, hql, hrows, hsum, hl, q⟩ := h
    have hu : (A.deeper (envOfC "names_behind" (defScope sNbh) s.heap.objs.size f cdv)).units + 64 < cLine := hr.units
    refine ⟨_, (pss_one (ps_ret (pe_callTy call_tuple_of (by rfl) T.tuple (by decide +kernel) (pa_cons (pe_lc2 (wi1 := (iList K (tSl (rSlL K) (tVar 2) (tPart (tC (.int 1))) tNoPart))) (own := [("row", 2), ("name", 3)]) (vs1 := [3]) rfl scNbh.nd (pi_list (pv 0)) (blkOk_by (N := ["rows", "word", "row", "name"]) (sc := defScope sNbh) (by decide +kernel)) (by decide) (fun _ _ _ _ _ => (pg_name (i := 2) scNbh.nd rfl (Or.inl rfl))) (fun _ _ _ _ _ => pts_one (pt_cmpR op_eq (pe_ix ix_listH (pv 2) pe_int (fun _ _ => rfl)) (pv 1) (nomark _))) (fun _ _ _ _ _ => (pi_list (pe_slice (show L2.SlR _ (rSlL K) from sl_list) (pv 2) (po_some pe_int) po_none))) (fun _ _ _ _ _ => (pg_name (i := 3) scNbh.nd rfl (Or.inl rfl))) (fun _ _ _ _ _ => pts_one (pt_cmpR op_ne (pv 3) pe_str (nomark _))) (fun _ _ _ _ _ => (pv 3))) pa_nil)))), ?_⟩
    rw [show L2.start ["rows", "word", "row", "name"] [.ref p, .str w] = [some (.ref p), some (.str w), none, none] from rfl]
    dsimp only [cxOf, Cx.nox, Cx.wish]
    have ksz : 1000000 ≤ sizeLine := by decide
    have hlen := outsB_len (w := w) (rows := rows)
    with_reducible refine g_ret ?_
    with_reducible refine g_cb ?_
    refine ⟨_, rfl, p, rfl, ⟨_, SqL.of hp⟩, fun D nD => lco2T (outsB rows w) (walk_lst hp nD) (by rw [hql]; exact List.length_map ..) (outsB_flat rows w) (by omega) nD (fun t x os H2 K0 K1 lt hx ho s2 hac kk k1 => ?_) (fun H2 us s2 hus hD => ?_)⟩
    · have ho1 : (rows.map fun r => if r.head? = some w then (r.drop 1).map markS else [])[t]? = some os := ho
      rw [List.getElem?_map] at ho1
      cases hr1 : rows[t]? with
      | none =>
        rw [hr1] at ho1
        cases ho1
      | some r =>
        rw [hr1] at ho1
        obtain ⟨qi, hq1, hq2, hne⟩ := hrows t r hr1
        have hx1 : qs[t]? = some x := hx
        rw [hq1] at hx1
        cases hx1
        cases r with
        | nil => exact absurd rfl hne
        | cons z0 rest =>
        have hos : os = if (z0 :: rest).head? = some w then ((z0 :: rest).drop 1).map markS else [] := (Option.some.inj ho1).symm
        have hat : atI ((z0 :: rest).map V.str) 0 = some (V.str z0) := atI_nat (show ((z0 :: rest).map V.str)[0]? = some (V.str z0) from rfl)
        refine ⟨rfl, _, rfl, qi, _, 0, V.str z0, rfl, rfl, s2 _ _ hq2, hat, _, rfl, rfl, _, rfl, ?_⟩
        by_cases hw : z0 = w
        · subst hw
          refine if_t (decide_eq_true rfl) ?_
          have hos2 : os = rest.map markS := by rw [hos]; exact if_pos rfl
          obtain ⟨acc, hD⟩ := hac
          refine ⟨_, rfl, _, rfl, ?_⟩
          dsimp only [tNoPart]
          have ecut : cutV ((z0 :: rest).map V.str) (some 1) none = rest.map V.str := cutFrom _ 1 (Nat.le_add_left ..)
          refine ⟨qi, _, rfl, SqL.of (s2 _ _ hq2), fun p1 np1 => ⟨p1, rfl, ⟨_, SqL.of upd_same⟩, ?_⟩⟩
          rw [ecut]
          have wk := wk_lst (K := K) (D := D) (upd_same (H := H2) (a := p1) (o := .lst (rest.map V.str))) (ne_of_none hD np1).symm
          rw [List.length_map] at wk
          have ol : os.length = rest.length := by rw [hos2, List.length_map]
          rw [← ol] at wk
          refine kk _ _ _ _ (same_upd np1) wk (fun j y d c H5 R R0 lt hy hoj sb hac2 r1 r0 => ?_)
          have hy1 : (rest.map V.str)[j]? = some y := hy
          rw [hos2, List.getElem?_map] at hoj
          rw [List.getElem?_map] at hy1
          cases hz : rest[j]? with
          | none =>
            rw [hz] at hy1
            cases hy1
          | some z =>
            rw [hz] at hy1 hoj
            cases hy1
            cases hoj
            refine ⟨rfl, _, rfl, rfl, _, rfl, ?_⟩
            by_cases hd : z = dashS
            · refine if_f (by rw [hd, decide_eq_true (show V.str dashS = V.str (Str.ofString "-") from rfl)]; rfl) ?_
              exact r0 H5 (by rw [decide_eq_true hd]; rfl) (Same.refl _)
            · refine if_t (by rw [decide_eq_false (show ¬ V.str z = V.str (Str.ofString "-") from fun e => hd (V.str.inj e))]; rfl) ?_
              exact ⟨_, rfl, r1 (V.str z) H5 (by rw [decide_eq_false hd]; rfl) (Same.refl _) (.str z)⟩
        · refine if_f (decide_eq_false fun e => hw (V.str.inj e)) ?_
          exact k1 _ (Same.refl _) (by rw [hos]; exact if_neg fun e => hw (Option.some.inj e))
    · rw [kept_behind] at hus
      exact ⟨D, us, rfl, .inl ⟨SqL.of hD, fun l nl => q _ _ (same_tr s2 (same_upd nl)) (.tup upd_same (hus.mono (same_upd nl)))⟩⟩
end

end LK
namespace LK
open PySem PySem.Spec PyProof.Rows L2

def spRow (form : Str → Bool) : Sp := fun vs H Q _ => ∃ (r : Str), vs = [.str r] ∧ r.length ≤ 100000 ∧ ∀ H2, Same H H2 → Q (.bl (form r)) H2
abbrev sRot : Stmt := topS 16
theorem scRot : FnScope ["text", "has_form", "rows", "at", "row"] ["text", "has_form"] (defScope sRot) := ⟨rfl, rfl, rfl, by decide +kernel, rfl, by decide +kernel, by decide +kernel⟩
/-- the rows of a text, or the first that is wrong -/
def spRot (form : Str → Bool) (g CP : Addr) : Sp := fun vs H Q E => ∃ (z : Str), vs = [.str z, .ref g] ∧ z.length ≤ 100000 ∧
  ((Txt.split z "\n").all form = true → ∀ p H2, Same H H2 → H p = none → H2 p = some (.lst ((Txt.split z "\n").map V.str)) → Q (.ref p) H2) ∧
  ((Txt.split z "\n").all form = false → ∀ dd H2, Same H H2 → H2 dd = some (.xd [("row", .int (((Txt.split z "\n").findIdx fun r => !form r) : Nat))]) → E (.ref CP) (some dd) H2)
section
variable {P : Program} {w : World} {K : PySem.W.Frag} {mg : Str → Option Value} {base : Heap}
theorem ok_Rot {form : Str → Bool} {CP f g : Addr} {fd gd : FuncData} {k : Nat} (F : Fun K "rows_of_text" "rows_of_text" sRot f fd) (T : Bl mg) (h2 : 2 ≤ k) (MP : ErrCls P w K mg base "ParseError" "row" CP) (FI : FnOk P w K mg base CX0 k g gd ["row"] (spRow form)) (hkI : PySem.W.keepIn K (.ref g) = true) (hbI : Binds K gd ["row"] []) : FnOk P w K mg base (L2.CX P w) (k + 1) f fd ["text", "has_form"] (spRot form g CP) := by
  refine F.okX scRot (fun vs H Q E h => ?_) (fun cdv A outer s H vs Q E hr h => ?_)
  · obtain ⟨z, rfl, _⟩ := h
    rfl
  · obtain ⟨z, rfl, hzl, q, qe⟩ := h
    have hu : (A.deeper (envOfC "rows_of_text" (defScope sRot) s.heap.objs.size f cdv)).units + 64 < cLine := hr.units
    refine ⟨_, (pss_cons (ps_if (pt_not (pt_val (pe_callB call_isi (by rfl) T.isi (by decide +kernel) (pa_cons (pv 0) (pa_cons (pe_bltn (v := .ty "str") (u := .type "str") rfl T.str (by decide +kernel) rfl) pa_nil))))) (pss_one ps_never) pss_nil)
      (pss_cons (ps_set (i := 2) scRot.nd rfl (Or.inl rfl) (pe_bm PySem.F.plainAttrs_str PySem.F.slot_str_split PySem.F.type_str_split mt_split (pv 0) (pa_cons pe_str pa_nil)))
      (pss_cons (ps_for (passes_of rfl) rfl (pi_enum (by rfl) T.enumerate (pa_cons (pv 2) pa_nil)) (pg_tup rfl (pgs_cons (pg_name (i := 3) scRot.nd rfl (Or.inl rfl)) (pgs_cons (pg_name (i := 4) scRot.nd rfl (Or.inl rfl)) pgs_nil)))
      (pss_one (ps_if (pt_not (pt_val (pe_callL (i := 1) (ds := []) (dvs := []) FI hr rfl (Or.inl rfl) hkI hbI .nil pass0 (pa_cons (pv 4) pa_nil)))) (pss_one (ps_raise rfl (takes_of rfl rfl rfl rfl) (pmk_err MP (hr.mono h2) rfl (pv 3)))) pss_nil)))
      (pss_one (ps_ret (pv 2)))))), ?_⟩
    rw [show L2.start ["text", "has_form", "rows", "at", "row"] [.str z, .ref g] = [some (.str z), some (.ref g), none, none, none] from rfl]
    have ksz : 10000002 ≤ sizeLine := by decide
    with_reducible refine go_seq ?_
    with_reducible refine g_if ?_
    with_reducible refine g_not ?_
    with_reducible refine g_tb ?_
    refine ⟨_, rfl, ?_⟩
    dsimp only [tC, tNil, tCons]
    refine isi_str (.str z) ?_
    refine ⟨_, rfl, if_f rfl ?_⟩
    with_reducible refine go_next ?_
    with_reducible refine go_seq ?_
    with_reducible refine go_asg ?_
    have few := split_few (x := z) sep_nl
    have short : ∀ p ∈ Txt.split z "\n", p.length ≤ z.length := fun p hp => split_short sep_nl hp
    refine ⟨_, rfl, rfl, _, _, rfl, rfl, by decide +kernel, by omega, fun l nl => ?_⟩
    have i1 := same_upd (o := .lst ((Txt.split z (Str.ofString "\n")).map V.str)) nl
    have h1 := upd_same (H := H) (a := l) (o := .lst ((Txt.split z (Str.ofString "\n")).map V.str))
    change Ends.nx _ _ _
    dsimp only [List.set]
    generalize upd H l _ = G1 at i1 h1 ⊢
    generalize Txt.split z (Str.ofString "\n") = rows at *
    with_reducible refine go_seq ?_
    refine ⟨_, rfl, l, _, rfl, SqL.of h1, for_enumL (K := K) (xs := rows.map V.str) (fun i σ G => ∃ v3 v4 : Option V, σ = [some (.str z), some (.ref g), some (.ref l), v3, v4] ∧ Same G1 G ∧ ∀ k r, k < i → rows[k]? = some r → form r = true) ⟨_, _, rfl, Same.refl _, fun k r h => (nomatch h)⟩ (fun i σ G _ hP => ?_) (fun i x σ G T hx hP nT => ?_) (fun σ G hP => ?_)⟩
    · obtain ⟨_, _, _, sG, _⟩ := hP
      exact SqL.of (sG _ _ h1)
    · obtain ⟨v3, v4, rfl, sG, hgood⟩ := hP
      have hx1 : (rows.map V.str)[i]? = some x := hx
      rw [List.getElem?_map] at hx1
      cases hq : rows[i]? with
      | none =>
        rw [hq] at hx1
        cases hx1
      | some p =>
        rw [hq] at hx1
        cases hx1
        have iT := same_upd (o := .tup [V.int (i : Nat), V.str p]) nT
        have hpl := short p (List.mem_of_getElem? hq)
        refine ⟨T, _, rfl, SqT.of upd_same, rfl, _, _, rfl, _, _, rfl, rfl, ?_⟩
        with_reducible refine g_if ?_
        with_reducible refine g_not ?_
        with_reducible refine g_tb ?_
        refine ⟨rfl, _, rfl, p, rfl, by omega, fun H2 s2 => ⟨_, rfl, ?_⟩⟩
        cases hf : form p with
        | true =>
          refine if_f rfl ?_
          with_reducible refine go_next ?_
          refine ⟨_, _, rfl, same_tr sG (same_tr iT s2), fun k r hk hr => ?_⟩
          by_cases e : k = i
          · subst e
            rw [hq] at hr
            cases hr
            exact hf
          · exact hgood k r (by omega) hr
        | false =>
          refine if_t rfl ?_
          have nall : rows.all form = false := by
            rw [List.all_eq_false]
            exact ⟨p, List.mem_of_getElem? hq, by rw [hf]; decide⟩
          have ei : (rows.findIdx fun r => !form r) = i := by
            obtain ⟨lt, e⟩ := List.getElem?_eq_some_iff.mp hq
            rw [List.findIdx_eq lt]
            refine ⟨by rw [e, hf]; rfl, fun j hj => ?_⟩
            rw [hgood j _ hj (List.getElem?_eq_getElem (by omega))]
            rfl
          refine ⟨_, rfl, fun dd nd => qe nall dd _ (same_tr i1 (same_tr sG (same_tr iT (same_tr s2 (same_upd nd))))) ?_⟩
          rw [ei]
          exact upd_same
    · obtain ⟨v3, v4, rfl, sG, hgood⟩ := hP
      with_reducible refine g_ret ?_
      refine ⟨_, rfl, q (List.all_eq_true.mpr fun r hr => ?_) l G (same_tr i1 sG) nl (sG _ _ h1)⟩
      obtain ⟨k, hk⟩ := List.getElem?_of_mem hr
      obtain ⟨lt, _⟩ := List.getElem?_eq_some_iff.mp hk
      exact hgood k r (by rw [List.length_map]; exact lt) hk
abbrev sPrp : Stmt := topS 20
theorem scPrp : FnScope ["text", "rows", "split", "row", "program"] ["text"] (defScope sPrp) := ⟨rfl, rfl, rfl, by decide +kernel, rfl, by decide +kernel, by decide +kernel⟩
theorem splits_sum : ∀ rows : List Str, ((rows.map fun r => Txt.split r " ").map List.length).sum ≤ jl rows
  | [] => Nat.le_refl _
  | r :: rows => by
    have k := splits_sum rows
    have k2 := split_few (x := r) sep_sp
    rw [List.map_cons, List.map_cons, List.sum_cons, jl_cons]
    omega
theorem behind_jl (w : Str) : ∀ rows : List Str, jl (behindL (rows.map fun r => Txt.split r " ") w) ≤ jl rows
  | [] => Nat.le_refl _
  | r :: rows => by
    have k := behind_jl w rows
    have k2 := split_jl (x := r) sep_sp
    show jl ((if (Txt.split r " ").head? = some w then ((Txt.split r " ").drop 1).filter fun z => !decide (z = dashS) else []) ++ behindL (rows.map fun r => Txt.split r " ") w) ≤ _
    rw [jl_append, jl_cons]
    have fl : ∀ zs : List Str, jl (zs.filter fun z => !decide (z = dashS)) ≤ jl zs := by
      intro zs
      induction zs with
      | nil => exact Nat.le_refl _
      | cons z zs ih =>
        rw [List.filter_cons]
        split
        · rw [jl_cons, jl_cons]
          omega
        · rw [jl_cons]
          omega
    have k3 : jl (if (Txt.split r " ").head? = some w then ((Txt.split r " ").drop 1).filter fun z => !decide (z = dashS) else []) ≤ jl (Txt.split r " ") := by
      split
      · have a1 := fl ((Txt.split r " ").drop 1)
        have a2 := jl_cut (Txt.split r " ") 1
        omega
      · exact Nat.zero_le _
    omega
theorem okLot_sy {a : List Str} (ha : a.all isNameS = true) : areSymsL (a.map PyData.str) 0 200 = okLot a := by
  unfold areSymsL okLot
  have e : (a.map PyData.str).all isNameD = true := by
    rw [List.all_map]
    exact ha
  rw [e, namesD_strs, List.length_map, decide_eq_true (show (0 : Int) ≤ ((a.length : Nat) : Int) by omega), Bool.true_and, Bool.true_and, Bool.and_comm]
  congr 1
  exact decide_eq_decide.mpr (by omega)
/-- a program, or the row at which its text is wrong -/
def spPrp (CP : Addr) : Sp := fun vs H Q E => ∃ (z : Str), vs = [.str z] ∧ z.length ≤ 100000 ∧ (∀ a b, parsedP z = .ok (a, b) → ∀ u H2, Same H H2 → Dr H2 u (.tuple [strsD a, strsD b]) → Q u H2) ∧ (∀ n : Nat, parsedP z = .error n → ∀ dd H2, Same H H2 → H2 dd = some (.xd [("row", .int (n : Nat))]) → E (.ref CP) (some dd) H2)
theorem ok_Prp {CP f g : Addr} {fd : FuncData} {k : Nat} (F : Fun K "parse_program" "parse_program" sPrp f fd) (T : Bl mg) (h2 : 2 ≤ k) (MP : ErrCls P w K mg base "ParseError" "row" CP) (mIpr : mg "is_program_row" = some (.ref g)) (LRot : LnkX P w K mg base "rows_of_text" k ["text", "has_form"] (spRot (fun r => (rowP r).isSome) g CP)) (LNbh : Lnk P w K mg base "names_behind" k ["rows", "word"] spNbh) (LPg : Lnk P w K mg base "is_program" k ["value"] (spB isProgramD)) (LFmp : Lnk P w K mg base "format_program" k ["program"] spFmp) : FnOk P w K mg base (L2.CX P w) (k + 1) f fd ["text"] (spPrp CP) := by
  refine F.okX scPrp (fun vs H Q E h => ?_) (fun cdv A outer s H vs Q E hr h => ?_)
  · obtain ⟨z, rfl, _⟩ := h
    rfl
  · obtain ⟨z, rfl, hzl, q, qe⟩ := h
    have hu : (A.deeper (envOfC "parse_program" (defScope sPrp) s.heap.objs.size f cdv)).units + 64 < cLine := hr.units
    refine ⟨_, (pss_cons (ps_set (i := 1) scPrp.nd rfl (Or.inl rfl) (pe_lnkX LRot hr rfl (passes_call (takes_of rfl rfl rfl rfl) (fun _ _ _ _ h => h)) (pa_cons (pv 0) (pa_cons (pe_glob (v := .ref g) rfl mIpr rfl) pa_nil))))
      (pss_cons (ps_setLc (i := 2) (own := [("row", 3)]) rfl scPrp.nd rfl rfl (sw_true rfl rfl rfl (by decide +kernel)) (pi_list (pv 1)) (blkOk_by (N := ["text", "rows", "split", "row", "program"]) (sc := defScope sPrp) (by decide +kernel)) (fun _ _ _ _ _ => (pg_name (i := 3) scPrp.nd rfl (Or.inl rfl))) (fun _ _ _ _ _ => pts_nil) (fun _ _ _ _ _ => (show PE _ _ (tBM K "str" rSpl (tVar 3) (tCons (tC (.str (Str.ofString " "))) tNil)) from (pe_bm PySem.F.plainAttrs_str PySem.F.slot_str_split PySem.F.type_str_split mt_splitD (pv 3) (pa_cons pe_str pa_nil)))))
      (pss_cons (ps_set (i := 4) scPrp.nd rfl (Or.inl rfl) (pe_tup (pa_cons (pe_lnk LNbh hr rfl (pa_cons (pv 2) (pa_cons pe_str pa_nil))) (pa_cons (pe_lnk LNbh hr rfl (pa_cons (pv 2) (pa_cons pe_str pa_nil))) pa_nil))))
      (pss_cons (ps_if (PW.pt (pw_or (pt_not (pt_val (pe_lnk LPg hr rfl (pa_cons (pv 4) pa_nil)))) (pw_or1 (pt_cmpR op_ne (pe_lnk LFmp hr rfl (pa_cons (pv 4) pa_nil)) (pv 0) (nomark _))))) (pss_one (ps_raise rfl (takes_of rfl rfl rfl rfl) (pmk_err MP (hr.mono h2) rfl (pe_callB call_len_seq (by rfl) T.len PySem.boot_len (pa_cons (pv 1) pa_nil))))) pss_nil)
      (pss_one (ps_ret (pv 4))))))), ?_⟩
    rw [show L2.start ["text", "rows", "split", "row", "program"] [.str z] = [some (.str z), none, none, none, none] from rfl]
    have ksz : 10000002 ≤ sizeLine := by decide
    have few := split_few (x := z) sep_nl
    have hj := split_jl (x := z) sep_nl
    have short : ∀ p ∈ Txt.split z "\n", p.length ≤ z.length := fun p hp => split_short sep_nl hp
    with_reducible refine go_seq ?_
    with_reducible refine go_asg ?_
    refine ⟨_, rfl, z, rfl, hzl, fun hall p G1 s1 np hp => ?_, fun hall dd G1 s1 hdd => ?_⟩
    rotate_left
    · unfold parsedP at qe
      rw [hall, if_neg Bool.false_ne_true] at qe
      exact qe _ rfl dd G1 s1 hdd
    obtain ⟨na, nb, hprog⟩ := prog_iff hall _ _ rfl rfl
    have ja := behind_jl dfnS (Txt.split z "\n")
    have jb := behind_jl ndsS (Txt.split z "\n")
    have hsum := splits_sum (Txt.split z "\n")
    unfold parsedP at q qe
    rw [hall, if_pos rfl, hprog] at q qe
    change Ends.nx _ _ _
    dsimp only [List.set]
    have hback : progT (behindL ((Txt.split z "\n").map fun r => Txt.split r " ") dfnS) (behindL ((Txt.split z "\n").map fun r => Txt.split r " ") ndsS) = z → True := fun _ => trivial
    generalize ha : behindL ((Txt.split z "\n").map fun r => Txt.split r " ") dfnS = a at *
    generalize hb : behindL ((Txt.split z "\n").map fun r => Txt.split r " ") ndsS = b at *
    generalize Txt.split z "\n" = rows at *
    with_reducible refine go_seq ?_
    with_reducible refine go_asg ?_
    refine ⟨_, rfl, p, rfl, ⟨_, SqL.of hp⟩, fun D nD => lcoG (fun i v G => ∃ l r, v = .ref l ∧ l ≠ D ∧ rows[i]? = some r ∧ G l = some (.lst ((Txt.split r " ").map V.str))) (walk_lst hp nD) (by rw [List.length_map]; omega) nD (fun i v G G2 acc hR hG sb => ?_) (fun i x G R lt hx hD sG rr => ?_) (fun G us sG hlen hus hD => ?_)⟩
    · obtain ⟨l, r, rfl, hl, hr, hg⟩ := hR
      exact ⟨l, r, rfl, hl, hr, sb _ _ hl hg⟩
    · have hx1 : (rows.map V.str)[i]? = some x := hx
      rw [List.getElem?_map] at hx1
      cases hq : rows[i]? with
      | none =>
        rw [hq] at hx1
        cases hx1
      | some r =>
        rw [hq] at hx1
        cases hx1
        have hrl := short r (List.mem_of_getElem? hq)
        obtain ⟨acc, hD⟩ := hD
        exact ⟨rfl, _, rfl, rfl, _, _, rfl, rfl, by decide +kernel, by omega, fun l nl => rr _ _ (same_upd nl) ⟨l, r, rfl, (show l ≠ D from fun e => by rw [e, hD] at nl; cases nl), hq, upd_same⟩⟩
    have hlen2 : us.length = (rows.map fun r => Txt.split r " ").length := by
      rw [hlen, List.length_map, List.length_map]
    have hrel : ∀ (i : Nat) (r : List Str), (rows.map fun r => Txt.split r " ")[i]? = some r → ∃ q, us[i]? = some (.ref q) ∧ G q = some (.lst (r.map V.str)) ∧ r ≠ [] := fun i r hr => by
      have lt : i < us.length := by
        rw [hlen2]
        exact (List.getElem?_eq_some_iff.mp hr).1
      obtain ⟨l, r0, e1, _, e2, e3⟩ := hus i us[i] (List.getElem?_eq_getElem lt)
      rw [List.getElem?_map, e2] at hr
      cases hr
      exact ⟨l, by rw [List.getElem?_eq_getElem lt, e1], e3, split_ne sep_sp⟩
    change Ends.nx _ _ _
    dsimp only [List.set]
    have sH := same_tr s1 sG
    have hpG := sG _ _ hp
    clear hus
    with_reducible refine go_seq ?_
    with_reducible refine go_asg ?_
    refine ⟨_, rfl, D, dfnS, us, _, rfl, hD, hlen2, hrel, by omega, by rw [List.length_map]; omega, fun u1 G2 s2 hu1 => ⟨_, rfl, D, ndsS, us, _, rfl, s2 _ _ hD, hlen2, fun i r hr => ?_, by omega, by rw [List.length_map]; omega, fun u2 G3 s3 hu2 => ⟨(show 2 ≤ sizeLine by decide), fun pt npt => ?_⟩⟩⟩
    · obtain ⟨l, e1, e2, e3⟩ := hrel i r hr
      exact ⟨l, e1, s2 _ _ e2, e3⟩
    rw [ha] at hu1
    rw [hb] at hu2
    have i4 := same_upd (o := .tup [u1, u2]) npt
    have hpr : Dr (upd G3 pt (.tup [u1, u2])) (.ref pt) (.tuple [strsD a, strsD b]) := .tup upd_same (.cons ((hu1.mono s3).mono i4) (.cons (hu2.mono i4) .nil))
    have sH4 := same_tr sH (same_tr s2 (same_tr s3 i4))
    have hp4 := (same_tr s2 (same_tr s3 i4)) _ _ hpG
    change Ends.nx _ _ (upd _ _ _)
    dsimp only [List.set]
    generalize upd G3 pt (.tup [u1, u2]) = G4 at hpr sH4 hp4 ⊢
    have eprog : isProgramD (.tuple [strsD a, strsD b]) = (okLot a && okLot b) := by
      show (areSymsL (a.map PyData.str) 0 200 && areSymsL (b.map PyData.str) 0 200) = _
      rw [okLot_sy na, okLot_sy nb]
    have lr : (rows.map V.str).length = rows.length := List.length_map _
    have hend : ∀ (G5 : Hp), Same G4 G5 → ¬ (okLot a = true ∧ okLot b = true ∧ progT a b = z) → ∀ dd, G5 dd = none → E (.ref CP) (some dd) (upd G5 dd (.xd [("row", .int (((rows.map V.str).length : Nat) : Int))])) := fun G5 s5 hn dd nd => by
      rw [if_neg hn] at qe
      refine qe _ rfl dd _ (same_tr sH4 (same_tr s5 (same_upd nd))) ?_
      rw [upd_same, lr]
    have fit : Fit (.tuple [strsD a, strsD b]) := by
      show szD (.tuple [strsD a, strsD b]) ≤ 1000000
      have e1 : ∀ zs : List Str, szD (strsD zs) = jl zs + 1 := fun zs => by
        show szL (zs.map PyData.str) + 1 = _
        congr 1
        induction zs with
        | nil => rfl
        | cons z zs ih =>
          show (z.length + 1) + szL (zs.map PyData.str) = _
          rw [ih, jl_cons]
      show szD (strsD a) + (szD (strsD b) + 0) + 1 ≤ 1000000
      rw [e1, e1]
      omega
    with_reducible refine go_seq ?_
    with_reducible refine g_if ?_
    with_reducible refine g_or ?_
    with_reducible refine g_not ?_
    with_reducible refine g_tb ?_
    refine ⟨_, rfl, _, _, rfl, hpr, fit, fun G5 s5 => ⟨_, rfl, ?_⟩⟩
    rw [eprog]
    have hp5 := s5 _ _ hp4
    cases hok : (okLot a && okLot b) with
    | false =>
      refine if_t rfl (if_t rfl ?_)
      have hn : ¬ (okLot a = true ∧ okLot b = true ∧ progT a b = z) := fun h => by
        rw [h.1, h.2.1] at hok
        cases hok
      exact ⟨_, rfl, p, _, rfl, .inl (SqL.of hp5), fun dd nd => hend G5 s5 hn dd nd⟩
    | true =>
      obtain ⟨k1, k2⟩ := Bool.and_eq_true_iff.mp hok
      refine if_f rfl ?_
      with_reducible refine g_test ?_
      with_reducible refine g_op ?_
      refine ⟨_, rfl, _, a, b, rfl, hpr.mono s5, by omega, by omega, fun G6 s6 => ⟨_, rfl, rfl, _, rfl, ?_⟩⟩
      have s56 := same_tr s5 s6
      by_cases hz : progT a b = z
      · refine if_f (by rw [decide_eq_true (congrArg V.str hz)]; rfl) ?_
        rw [if_pos ⟨k1, k2, hz⟩] at q
        with_reducible refine go_next ?_
        with_reducible refine g_ret ?_
        exact ⟨_, rfl, q a b rfl _ G6 (same_tr sH4 s56) (hpr.mono s56)⟩
      · refine if_t (by rw [decide_eq_false fun e => hz (V.str.inj e)]; rfl) ?_
        exact ⟨_, rfl, p, _, rfl, .inl (SqL.of (s6 _ _ hp5)), fun dd nd => hend G6 s56 (fun h => hz h.2.2) dd nd⟩
end

end LK
namespace LK
open PySem PySem.Spec PyProof.Rows L2

abbrev sPtx : Stmt := topS 35
theorem scPtx : FnScope ["_law_program_here", "_law_rows", "_law_names_here"] ["_law_program_here"] (defScope sPtx) := ⟨rfl, rfl, rfl, by decide +kernel, rfl, by decide +kernel, by decide +kernel⟩
section
variable {P : Program} {w : World} {K : PySem.W.Frag} {mg : Str → Option Value} {base : Heap}
theorem ok_Ptx {f : Addr} {fd : FuncData} {k : Nat} (F : Fun K "_law_program_text" "_law_program_text" sPtx f fd) (T : Bl mg) : FnOk P w K mg base CX0 (k + 1) f fd ["_law_program_here"] spFmp := by
  refine F.ok scPtx (fun vs H Q E h => ?_) (fun cdv A outer s H vs Q E hr h => ?_)
  · obtain ⟨v, a, b, rfl, _⟩ := h
    rfl
  · obtain ⟨v, a, b, rfl, hv, ha, hb, q⟩ := h
    have hu : (A.deeper (envOfC "_law_program_text" (defScope sPtx) s.heap.objs.size f cdv)).units + 64 < cLine := hr.units
    have ksz : 1000000 ≤ sizeLine := by decide
    refine ⟨_, (pss_cons (ps_setLc (i := 1) (own := [("_law_names_here", 2)]) rfl scPtx.nd rfl rfl (sw_true rfl rfl rfl (by decide +kernel)) (pi_tup (pv 0)) (blkOk_by (N := ["_law_program_here", "_law_rows", "_law_names_here"]) (sc := defScope sPtx) (by decide +kernel)) (fun _ _ _ _ _ => (pg_name (i := 2) scPtx.nd rfl (Or.inl rfl))) (fun _ _ _ _ _ => pts_nil) (fun _ _ _ _ _ => (show PE _ _ (tBM K "str" (rJoinK K) (tC (.str (Str.ofString " "))) (tCons (tIf (tTest (tOp rNeE (tVar 2) (tTup tNil))) (tVar 2) (tTup (tCons (tC (.str (Str.ofString "-"))) tNil))) tNil)) from (pe_bm PySem.F.plainAttrs_str PySem.F.slot_str_join PySem.F.type_str_join mt_join pe_str (pa_cons (pe_ifExp (pt_cmpR (op_neE hu) (pv 2) (pe_tup pa_nil) (nomark _)) (pv 2) (pe_tup (pa_cons pe_str pa_nil))) pa_nil)))))
      (pss_one (ps_ret (pe_op op_add_str (pe_op op_add_str (pe_op op_add_str pe_str (pe_ix ix_listH (pv 1) pe_int (fun _ _ => rfl))) pe_str) (pe_ix ix_listH (pv 1) pe_int (fun _ _ => rfl)))))), ?_⟩
    rw [show L2.start ["_law_program_here", "_law_rows", "_law_names_here"] [v] = [some v, none, none] from rfl]
    dsimp only [cxOf, Cx.nox, Cx.wish]
    obtain ⟨pv, p1, p2, rfl, hpv, h1, h2⟩ : ∃ pv p1 p2, v = .ref pv ∧ H pv = some (.tup [.ref p1, .ref p2]) ∧ H p1 = some (.tup (a.map V.str)) ∧ H p2 = some (.tup (b.map V.str)) := by
      cases hv with
      | tup hp hal =>
        cases hal with
        | cons x1 hal =>
          cases hal with
          | cons x2 hal =>
            cases hal
            obtain ⟨p1, rfl, k1⟩ := dr_strsD x1
            obtain ⟨p2, rfl, k2⟩ := dr_strsD x2
            exact ⟨_, p1, p2, rfl, hp, k1, k2⟩
    have j1 := orDash_jl a
    have j2 := orDash_jl b
    have l1 := joinT_le sep_sp (orDash a)
    have l2 := joinT_le sep_sp (orDash b)
    have dne : ∀ zs : List Str, orDash zs ≠ [] := fun zs => by
      unfold orDash
      split
      · simp
      · rename_i h
        exact h
    have row : ∀ (w : Str) (zs : List Str), TL.tl (rowT w zs) = TL.tl w ++ (32 :: TL.tl (Txt.join " " (orDash zs))) := fun w zs => by
      unfold rowT
      rw [TL.join_eq, TL.join_eq]
      cases hq : orDash zs with
      | nil => exact absurd hq (dne zs)
      | cons x r =>
        show TL.tl (w ++ " " ++ Str.join " " (x :: r)) = _
        rw [TL.tl_append, TL.tl_append, List.append_assoc]
        rfl
    have ex : progT a b = "defines " ++ Txt.join " " (orDash a) ++ "\nneeds " ++ Txt.join " " (orDash b) := by
      unfold progT
      rw [TL.join_eq]
      show rowT dfnS a ++ "\n" ++ rowT ndsS b = _
      refine TL.ext_tl ?_
      rw [TL.tl_append, TL.tl_append, TL.tl_append, TL.tl_append, TL.tl_append, row, row, show TL.tl ("defines " : Str) = TL.tl dfnS ++ [32] from by decide +kernel, show TL.tl ("\nneeds " : Str) = TL.tl ("\n" : Str) ++ (TL.tl ndsS ++ [32]) from by decide +kernel]
      simp
    rw [ex] at q
    have lots : ∀ (x : V) (t : Nat), [V.ref p1, V.ref p2][t]? = some x → ∃ p zs, x = .ref p ∧ H p = some (.tup (zs.map V.str)) ∧ [a, b][t]? = some zs ∧ jl (orDash zs) ≤ 400000 := fun x t hx => by
      match t, hx with
      | 0, hx =>
        cases hx
        exact ⟨p1, a, rfl, h1, rfl, by omega⟩
      | 1, hx =>
        cases hx
        exact ⟨p2, b, rfl, h2, rfl, by omega⟩
    with_reducible refine go_seq ?_
    with_reducible refine go_asg ?_
    refine ⟨_, rfl, pv, rfl, ⟨_, SqT.of hpv⟩, fun D nD => lco ([a, b].map fun zs => some (V.str (Txt.join " " (orDash zs)))) (walk_tup hpv nD) rfl (show 2 ≤ sizeLine by decide) nD (fun t x o H2 R R0 lt hx ho s2 r1 r0 => ?_) (fun H2 s2 hD => ?_)⟩
    · obtain ⟨p, zs, rfl, hp, hzs, hj⟩ := lots x t hx
      rw [List.getElem?_map, hzs] at ho
      cases ho
      refine ⟨rfl, ?_⟩
      refine g_yes ?_
      have hp2 := s2 _ _ hp
      refine ⟨rfl, ?_⟩
      have fin : ∀ (p3 : Addr) (G : Hp), Same H2 G → G p3 = some (.tup ((orDash zs).map V.str)) → rJoinK K (.str " ") [.ref p3] G R := fun p3 G sG h3 => ⟨_, p3, orDash zs, rfl, rfl, .inr (SqT.of h3), by rw [join_room sep_sp]; omega, r1 _ _ rfl sG⟩
      refine g_ife (g_test (g_op ⟨_, rfl, Nat.zero_le _, fun p3 np3 => ⟨p, p3, _, rfl, rfl, same_upd np3 _ _ hp2, upd_same, _, rfl, ?_⟩⟩))
      have s3 := same_upd (o := .tup []) np3
      cases zs with
      | nil => exact if_f rfl ⟨(show 1 ≤ sizeLine by decide), fun p4 np4 => fin p4 _ (same_tr s3 (same_upd np4)) upd_same⟩
      | cons z zs => exact if_t rfl ⟨_, rfl, fin p _ s3 (s3 _ _ hp2)⟩
    · rw [keep_some] at hD
      change Ends.nx _ _ _
      dsimp only [List.set]
      have hD : H2 D = some (.lst [V.str (Txt.join " " (orDash a)), V.str (Txt.join " " (orDash b))]) := hD
      have e1 : ("defines " : Str).length = 8 := by decide +kernel
      have e2 : ("\nneeds " : Str).length = 7 := by decide +kernel
      with_reducible refine g_ret ?_
      refine ⟨_, rfl, D, _, _, _, rfl, rfl, hD, atI_nat (show [V.str (Txt.join " " (orDash a)), V.str (Txt.join " " (orDash b))][0]? = some _ from rfl), _, _, rfl, rfl, ?_, _, _, rfl, rfl, ?_, _, rfl, D, _, _, _, rfl, rfl, hD, atI_nat (show [V.str (Txt.join " " (orDash a)), V.str (Txt.join " " (orDash b))][1]? = some _ from rfl), _, _, rfl, rfl, ?_, q _ s2⟩
      · show ("defines " : Str).length + (Txt.join " " (orDash a)).length ≤ _
        omega
      · rw [str_len_append]
        show ("defines " : Str).length + (Txt.join " " (orDash a)).length + ("\nneeds " : Str).length ≤ _
        omega
      · rw [str_len_append, str_len_append]
        show ("defines " : Str).length + (Txt.join " " (orDash a)).length + ("\nneeds " : Str).length + (Txt.join " " (orDash b)).length ≤ _
        omega
abbrev sLpr : Stmt := topS 36
theorem scLpr : FnScope ["_law_row", "_law_parts", "_law_part"] ["_law_row"] (defScope sLpr) := ⟨rfl, rfl, rfl, by decide +kernel, rfl, by decide +kernel, by decide +kernel⟩
def spLpr : Sp := fun vs H Q _ => ∃ (r : Str), vs = [.str r] ∧ r.length ≤ 100000 ∧ ∀ v H2, Same H H2 → Dr H2 v (rwD (rowP r)) → Q v H2
theorem ok_Lpr {f : Addr} {fd : FuncData} {k : Nat} (F : Fun K "_law_program_row" "_law_program_row" sLpr f fd) (T : Bl mg) (LLnm : Lnk P w K mg base "_law_is_name" k ["_law_said"] (spB isNameD)) : FnOk P w K mg base CX0 (k + 1) f fd ["_law_row"] spLpr := by
  refine F.ok scLpr (fun vs H Q E h => ?_) (fun cdv A outer s H vs Q E hr h => ?_)
  · obtain ⟨r, rfl, _⟩ := h
    rfl
  · obtain ⟨r, rfl, hl, q⟩ := h
    have hu : (A.deeper (envOfC "_law_program_row" (defScope sLpr) s.heap.objs.size f cdv)).units + 64 < cLine := hr.units
    have ksz : 1000000 ≤ sizeLine := by decide
    refine ⟨_, (pss_cons (ps_set (i := 1) scLpr.nd rfl (Or.inl rfl) (pe_bm PySem.F.plainAttrs_str PySem.F.slot_str_split PySem.F.type_str_split mt_split (pv 0) (pa_cons pe_str pa_nil)))
      (pss_cons (ps_if (PW.pt (pw_or (pt_cmpR (show OpR _ (compareOp .NotIn) (rIn K true) from op_notIn_seq) (pe_ix ix_listH (pv 1) pe_int (fun _ _ => rfl)) (pe_tup (pa_cons pe_str (pa_cons pe_str pa_nil))) rfl) (pw_or1 (pt_cmpR op_lt (pe_callB call_len_seq (by rfl) T.len PySem.boot_len (pa_cons (pv 1) pa_nil)) pe_int (nomark _))))) (pss_one (ps_ret pe_non)) pss_nil)
      (pss_cons (ps_if (pt_cmpR (op_eqSS hu) (pe_slice (show L2.SlR _ (rSlL K) from sl_list) (pv 1) (po_some pe_int) po_none) (pe_lst (pa_cons pe_str pa_nil)) (nomark _)) (pss_one (ps_ret (pe_tup (pa_cons (pe_ix ix_listH (pv 1) pe_int (fun _ _ => rfl)) (pa_cons (pe_tup pa_nil) pa_nil))))) pss_nil)
      (pss_cons (ps_if (pt_not (pt_val (pe_callB (cr_all rfl) (by rfl) T.all (by decide +kernel) (pa_cons (pe_lc (own := [("_law_part", 2)]) rfl scLpr.nd (pi_list (pe_slice (show L2.SlR _ (rSlL K) from sl_list) (pv 1) (po_some pe_int) po_none)) (blkOk_by (N := ["_law_row", "_law_parts", "_law_part"]) (sc := defScope sLpr) (by decide +kernel)) (fun _ _ _ _ _ => (pg_name (i := 2) scLpr.nd rfl (Or.inl rfl))) (fun _ _ _ _ _ => pts_nil) (fun _ _ _ _ _ => (pe_lnk LLnm hr rfl (pa_cons (pv 2) pa_nil)))) pa_nil)))) (pss_one (ps_ret pe_non)) pss_nil)
      (pss_one (ps_ret (pe_tup (pa_cons (pe_ix ix_listH (pv 1) pe_int (fun _ _ => rfl)) (pa_cons (pe_callTy call_tuple_of (by rfl) T.tuple (by decide +kernel) (pa_cons (pe_slice (show L2.SlR _ (rSlL K) from sl_list) (pv 1) (po_some pe_int) po_none) pa_nil)) pa_nil))))))))), ?_⟩
    rw [show L2.start ["_law_row", "_law_parts", "_law_part"] [.str r] = [some (.str r), none, none] from rfl]
    dsimp only [cxOf, Cx.nox, Cx.wish]
    have few := split_few (x := r) sep_sp
    have ne := split_ne (x := r) sep_sp
    have short : ∀ p ∈ Txt.split r " ", p.length ≤ r.length := fun p hp => split_short sep_sp hp
    unfold rowP at q
    with_reducible refine go_seq ?_
    with_reducible refine go_asg ?_
    refine ⟨_, rfl, rfl, _, _, rfl, rfl, by decide +kernel, by omega, fun l nl => ?_⟩
    have i1 := same_upd (o := .lst ((Txt.split r " ").map V.str)) nl
    have h1 := upd_same (H := H) (a := l) (o := .lst ((Txt.split r " ").map V.str))
    change Ends.nx _ _ (upd _ _ _)
    dsimp only [List.set]
    generalize upd H l _ = G1 at i1 h1 ⊢
    generalize Txt.split r " " = ws at *
    obtain ⟨v, zs, rfl⟩ : ∃ v zs, ws = v :: zs := by
      cases ws with
      | nil => exact absurd rfl ne
      | cons v zs => exact ⟨v, zs, rfl⟩
    have hat : atI ((v :: zs).map V.str) 0 = some (V.str v) := atI_nat (show ((v :: zs).map V.str)[0]? = some (V.str v) from rfl)
    have hz2 : ∀ z ∈ zs, z.length ≤ r.length := fun z hz => short z (List.mem_cons_of_mem _ hz)
    have ecut : cutV ((v :: zs).map V.str) (some 1) none = zs.map V.str := cutFrom _ 1 (Nat.le_add_left ..)
    have q : ∀ u H2, Same H H2 → Dr H2 u (rwD (if v = dfnS ∨ v = ndsS then (if zs = [dashS] then some (v, []) else if 0 < zs.length ∧ zs.all isNameS = true then some (v, zs) else none) else none)) → Q u H2 := q
    have lw : ((v :: zs).map V.str).length = zs.length + 1 := by rw [List.length_map]; rfl
    rw [List.length_cons] at few
    have e : ∀ b : Bool, inV (V.str v) [V.str (Str.ofString "defines"), V.str (Str.ofString "needs")] = decide (v = dfnS ∨ v = ndsS) := fun _ => by
      rw [Bool.eq_iff_iff, decide_eq_true_iff]
      unfold inV
      simp only [List.any_cons, List.any_nil, Bool.or_false, Bool.or_eq_true]
      show ((dfnS == v) = true ∨ (ndsS == v) = true) ↔ _
      rw [beq_iff_eq, beq_iff_eq]
      exact ⟨fun h => h.elim (fun e => .inl e.symm) fun e => .inr e.symm, fun h => h.elim (fun e => .inl e.symm) fun e => .inr e.symm⟩
    with_reducible refine go_seq ?_
    with_reducible refine g_if ?_
    refine g_or (g_test (g_op ⟨_, rfl, l, _, _, _, rfl, rfl, h1, hat, (show 2 ≤ sizeLine by decide), fun t nt => ⟨t, _, rfl, .inr (SqT.of upd_same), rfl, rfl, _, rfl, ?_⟩⟩))
    rw [if_pos rfl, e true]
    have i2 := same_upd (o := .tup [V.str (Str.ofString "defines"), V.str (Str.ofString "needs")]) nt
    have h2 := i2 _ _ h1
    have s2 := same_tr i1 i2
    generalize upd G1 t _ = G2 at i2 h2 s2 ⊢
    by_cases hv : v = dfnS ∨ v = ndsS
    · rw [if_pos hv] at q
      refine if_f (by rw [decide_eq_true hv]; rfl) (g_test (g_op ⟨_, rfl, l, _, rfl, .inl (SqL.of h2), _, _, rfl, rfl, _, rfl, ?_⟩))
      by_cases hz0 : zs = []
      · subst hz0
        refine if_t (decide_eq_true (by rw [lw]; decide)) ?_
        with_reducible refine g_ret ?_
        rw [if_neg (by decide +kernel), if_neg (fun h => absurd h.1 (by decide))] at q
        exact q _ _ s2 .non
      · have hpos := List.length_pos_iff.mpr hz0
        refine if_f (decide_eq_false (by rw [lw]; omega)) ?_
        with_reducible refine go_next ?_
        with_reducible refine go_seq ?_
        with_reducible refine g_if ?_
        refine g_test (g_op ?_)
        dsimp only [tNoPart]
        refine ⟨_, rfl, _, rfl, l, _, rfl, SqL.of h2, fun c1 nc1 => ?_⟩
        rw [ecut]
        refine ⟨(show 1 ≤ sizeLine by decide), fun t2 nt2 => ⟨c1, t2, zs, [dashS], rfl, rfl, same_upd nt2 _ _ upd_same, upd_same, _, rfl, ?_⟩⟩
        rw [if_neg Bool.false_ne_true]
        have s3 := same_tr (same_upd (o := .lst (zs.map V.str)) nc1) (same_upd (o := .lst [V.str dashS]) nt2)
        have h3 := s3 _ _ h2
        have s23 := same_tr s2 s3
        change if decide (zs = [dashS]) = true then tRet _ _ _ (upd _ _ (.lst [V.str dashS])) else tNext _ _ (upd _ _ (.lst [V.str dashS]))
        generalize upd (upd G2 c1 (.lst (zs.map V.str))) t2 (.lst [V.str dashS]) = G3 at h3 s23 ⊢
        by_cases hd : zs = [dashS]
        · rw [if_pos hd] at q
          refine if_t (decide_eq_true hd) ?_
          with_reducible refine g_ret ?_
          refine ⟨_, rfl, l, _, _, _, rfl, rfl, h3, hat, Nat.zero_le _, fun t4 nt4 => ⟨(show 2 ≤ sizeLine by decide), fun t5 nt5 => ?_⟩⟩
          have s45 := same_tr (same_upd (o := .tup []) nt4) (same_upd (o := .tup [V.str v, V.ref t4]) nt5)
          exact q _ _ (same_tr s23 s45) (.tup upd_same (.cons (.str v) (.cons (.tup (same_upd nt5 _ _ upd_same) .nil) .nil)))
        · rw [if_neg hd] at q
          refine if_f (decide_eq_false hd) ?_
          with_reducible refine go_next ?_
          with_reducible refine go_seq ?_
          with_reducible refine g_if ?_
          refine g_not (g_tb (g_cb ?_))
          refine ⟨_, rfl, _, rfl, l, _, rfl, SqL.of h3, fun c4 nc4 => ?_⟩
          rw [ecut]
          have h4 := upd_same (H := G3) (a := c4) (o := .lst (zs.map V.str))
          have s4 := same_upd (o := .lst (zs.map V.str)) nc4
          generalize upd G3 c4 _ = G4 at h4 s4 ⊢
          refine ⟨c4, rfl, ⟨_, SqL.of h4⟩, fun D nD => lco (zs.map fun z => some (V.bl (isNameS z))) (walk_lst h4 nD) (by rw [List.length_map, List.length_map]) (by rw [List.length_map]; omega) nD (fun t x o H2 R R0 lt hx ho s2 r1 r0 => ?_) (fun H2 s5 hD => ?_)⟩
          · have hx1 : (zs.map V.str)[t]? = some x := hx
            rw [List.getElem?_map] at hx1 ho
            cases hq : zs[t]? with
            | none =>
              rw [hq] at hx1
              cases hx1
            | some z =>
              rw [hq] at hx1 ho
              cases hx1
              cases ho
              have hzl := hz2 z (List.mem_of_getElem? hq)
              exact ⟨rfl, _, rfl, V.str z, .str z, rfl, .str z, (by show z.length + 1 ≤ 1000000; omega), fun H3 s3 => r1 _ _ rfl s3⟩
          · rw [keep_some] at hD
            refine ⟨D, zs.map isNameS, rfl, SqL.of (by rw [hD, List.map_map]; rfl), _, rfl, ?_⟩
            rw [List.all_map]
            have ea : zs.all (id ∘ isNameS) = zs.all isNameS := rfl
            rw [ea]
            have s25 := same_tr s23 (same_tr s4 s5)
            have h5 := s5 _ _ (s4 _ _ h3)
            cases hall : zs.all isNameS with
            | false =>
              refine if_t rfl ?_
              with_reducible refine g_ret ?_
              rw [if_neg (fun h => by rw [hall] at h; exact absurd h.2 Bool.false_ne_true)] at q
              exact q _ _ s25 .non
            | true =>
              refine if_f rfl ?_
              with_reducible refine go_next ?_
              with_reducible refine g_ret ?_
              rw [if_pos ⟨hpos, hall⟩] at q
              refine ⟨_, rfl, l, _, _, _, rfl, rfl, h5, hat, _, rfl, _, rfl, l, _, rfl, SqL.of h5, fun c6 nc6 => ?_⟩
              rw [ecut]
              refine ⟨c6, _, rfl, .inl ⟨SqL.of upd_same, fun t7 nt7 => ⟨(show 2 ≤ sizeLine by decide), fun t8 nt8 => ?_⟩⟩⟩
              have s68 := same_tr (same_upd (o := .lst (zs.map V.str)) nc6) (same_tr (same_upd (o := .tup (zs.map V.str)) nt7) (same_upd (o := .tup [V.str v, V.ref t7]) nt8))
              exact q _ _ (same_tr s25 s68) (.tup upd_same (.cons (.str v) (.cons (.tup (same_upd nt8 _ _ upd_same) (dr_strs zs)) .nil)))
    · rw [if_neg hv] at q
      refine if_t (by rw [decide_eq_false hv]; rfl) (if_t rfl ?_)
      with_reducible refine g_ret ?_
      exact q _ _ s2 .non
theorem rwD_facts {r : Str} : flatD (rwD (rowP r)) = true ∧ (rwD (rowP r)).canLay0 = true ∧ (rwD (rowP r)).depth ≤ 2 ∧ (rwD (rowP r)).hasDict = false := by
  cases h : rowP r with
  | none => exact ⟨rfl, rfl, Nat.zero_le _, rfl⟩
  | some p =>
    obtain ⟨w, ns⟩ := p
    obtain ⟨hw, hn, _⟩ := row_some h
    have k := shn_strs hn (Nat.le_refl _)
    have ok : PyData.strOk w = true := by
      rcases hw with rfl | rfl <;> decide +kernel
    refine ⟨?_, ?_, ?_, ?_⟩
    · show (true && (flatD (strsD ns) && true)) = true
      rw [flat_strsD]
      rfl
    · show (PyData.strOk w && ((strsD ns).canLay0 && true)) = true
      rw [ok, show (strsD ns).canLay0 = true from lay_strs hn]
      rfl
    · show max 0 (max (strsD ns).depth 0) + 1 ≤ 2
      have := k.dp
      omega
    · show (false || ((strsD ns).hasDict || false)) = false
      rw [k.nd]
      rfl
theorem any_none (rows : List Str) : ((rows.map fun r => rwD (rowP r)).any fun y => PyData.eqv y .none) = !(rows.all fun r => (rowP r).isSome) := by
  induction rows with
  | nil => rfl
  | cons r rows ih =>
    rw [List.map_cons, List.any_cons, ih, List.all_cons]
    cases rowP r with
    | none => rfl
    | some p => rfl
theorem all_some : ∀ {rows : List Str}, (rows.all fun r => (rowP r).isSome) = true → ∃ prs : List (Str × List Str), rows.map rowP = prs.map some
  | [], _ => ⟨[], rfl⟩
  | r :: rows, h => by
    obtain ⟨h1, h2⟩ := Bool.and_eq_true_iff.mp (show ((rowP r).isSome && rows.all fun r => (rowP r).isSome) = true from h)
    obtain ⟨prs, e⟩ := all_some h2
    obtain ⟨p, ep⟩ := Option.isSome_iff_exists.mp h1
    exact ⟨p :: prs, by rw [List.map_cons, List.map_cons, e, ep]⟩
theorem prs_two {prs : List (Str × List Str)} (h : prs.map (·.1) = [dfnS, ndsS]) : ∃ a b, prs = [(dfnS, a), (ndsS, b)] := by
  match prs, h with
  | [(w1, a), (w2, b)], h =>
    have h : [w1, w2] = [dfnS, ndsS] := h
    cases h
    exact ⟨a, b, rfl⟩
theorem progL_no {prs : List (Str × List Str)} (h : prs.map (·.1) ≠ [dfnS, ndsS]) : progL (prs.map some) = none := by
  match prs, h with
  | [], _ => rfl
  | [p], _ => rfl
  | [(w1, a), (w2, b)], h =>
    refine if_neg fun k => h ?_
    show [w1, w2] = _
    rw [k.1, k.2.1]
  | p1 :: p2 :: p3 :: r, _ => rfl
abbrev sLdu : Stmt := topS 37
theorem scLdu : FnScope ["_law_said", "_law_rows", "_law_row", "_law_acts", "_law_lots", "_law_names_here"] ["_law_said"] (defScope sLdu) := ⟨rfl, rfl, rfl, by decide +kernel, rfl, by decide +kernel, by decide +kernel⟩
/-- what a text tells, as the law has it -/
def spLdu : Sp := fun vs H Q _ => ∃ (z : Str), vs = [.str z] ∧ z.length ≤ 4000 ∧ ∀ v H2, Same H H2 → Dr H2 v (toldP z) → Q v H2
theorem ok_Ldu {f : Addr} {fd : FuncData} {k : Nat} (F : Fun K "_law_due" "_law_due" sLdu f fd) (T : Bl mg) (LLpr : Lnk P w K mg base "_law_program_row" k ["_law_row"] spLpr) : FnOk P w K mg base CX0 (k + 1) f fd ["_law_said"] spLdu := by
  refine F.ok scLdu (fun vs H Q E h => ?_) (fun cdv A outer s H vs Q E hr h => ?_)
  · obtain ⟨z, rfl, _⟩ := h
    rfl
  · obtain ⟨z, rfl, hl, q⟩ := h
    have hu : (A.deeper (envOfC "_law_due" (defScope sLdu) s.heap.objs.size f cdv)).units + 64 < cLine := hr.units
    have hu65 : (A.deeper (envOfC "_law_due" (defScope sLdu) s.heap.objs.size f cdv)).units + 65 < cLine := by
      have := hr.un
      omega
    have ksz : 1000000 ≤ sizeLine := by decide
    refine ⟨_, (pss_cons (ps_setLc (i := 1) (own := [("_law_row", 2)]) rfl scLdu.nd rfl rfl (sw_true rfl rfl rfl (by decide +kernel)) (pi_list (pe_bm PySem.F.plainAttrs_str PySem.F.slot_str_split PySem.F.type_str_split mt_split (pv 0) (pa_cons pe_str pa_nil))) (blkOk_by (N := ["_law_said", "_law_rows", "_law_row", "_law_acts", "_law_lots", "_law_names_here"]) (sc := defScope sLdu) (by decide +kernel)) (fun _ _ _ _ _ => (pg_name (i := 2) scLdu.nd rfl (Or.inl rfl))) (fun _ _ _ _ _ => pts_nil) (fun _ _ _ _ _ => (pe_lnk LLpr hr rfl (pa_cons (pv 2) pa_nil))))
      (pss_cons (ps_if (pt_cmpR (op_inG hu) pe_non (pv 1) rfl) (pss_one (ps_ret (pe_lst (pa_cons (pe_bm PySem.F.plainAttrs_list PySem.F.slot_list_index PySem.F.type_list_index (mt_indexG hu65) (pv 1) (pa_cons pe_non pa_nil)) pa_nil)))) pss_nil)
      (pss_cons (ps_par (i := 3) (j := 4) (by rfl) scLdu.nd rfl rfl (by decide) rfl rfl (pa_cons (pe_lst pa_nil) (pa_cons (pe_lst pa_nil) pa_nil)) (by rfl))
      (pss_cons (ps_for PassesOwn.never rfl (pi_list (pv 1)) (pg_name (i := 2) scLdu.nd rfl (Or.inl rfl))
      (pss_cons (ps_expr (pe_bm PySem.F.plainAttrs_list PySem.F.slot_list_extend PySem.F.type_list_extend mt_extend (pv 3) (pa_cons (pe_slice (show L2.SlR _ (rSlL K) from sl_list) (pe_callTy call_list_of (by rfl) T.list (by decide +kernel) (pa_cons (pe_orT (pv 2) (pe_one (pe_tup pa_nil))) pa_nil)) po_none (po_some pe_int)) pa_nil)))
      (pss_one (ps_expr (pe_bm PySem.F.plainAttrs_list PySem.F.slot_list_extend PySem.F.type_list_extend mt_extend (pv 4) (pa_cons (pe_slice (show L2.SlR _ (rSlL K) from sl_list) (pe_callTy call_list_of (by rfl) T.list (by decide +kernel) (pa_cons (pe_orT (pv 2) (pe_one (pe_tup pa_nil))) pa_nil)) (po_some pe_int) po_none) pa_nil))))))
      (pss_cons (ps_if (PW.pt (pw_or (pt_cmpR (op_neSS hu) (pv 3) (pe_lst (pa_cons pe_str (pa_cons pe_str pa_nil))) (nomark _)) (pw_or1 (pt_not (pt_val (pe_callB (cr_all rfl) (by rfl) T.all (by decide +kernel) (pa_cons (pe_lc (own := [("_law_names_here", 5)]) rfl scLdu.nd (pi_list (pv 4)) (blkOk_by (N := ["_law_said", "_law_rows", "_law_row", "_law_acts", "_law_lots", "_law_names_here"]) (sc := defScope sLdu) (by decide +kernel)) (fun _ _ _ _ _ => (pg_name (i := 5) scLdu.nd rfl (Or.inl rfl))) (fun _ _ _ _ _ => pts_nil) (fun _ _ _ _ _ => (pe_cmpR (op_eqSS hu) (pe_callTy cr_listH (by rfl) T.list (by decide +kernel) (pa_cons (pv 5) pa_nil)) (pe_callB (show CallR _ (.builtin "sorted") (rSortedT w) from cr_sortedT rfl hu) (by rfl) T.sorted (by decide +kernel) (pa_cons (pe_callTy (show CallR _ (.type "set") (rSetOfT w) from call_setOfT rfl) (by rfl) T.set (by decide +kernel) (pa_cons (pv 5) pa_nil)) pa_nil)) (nomark _)))) pa_nil))))))) (pss_one (ps_ret (pe_lst (pa_cons (pe_callB call_len_seq (by rfl) T.len PySem.boot_len (pa_cons (pv 1) pa_nil)) pa_nil)))) pss_nil)
      (pss_one (ps_ret (pe_ifExp (pt_val (pe_callB (cr_all rfl) (by rfl) T.all (by decide +kernel) (pa_cons (pe_lc (own := [("_law_names_here", 5)]) rfl scLdu.nd (pi_list (pv 4)) (blkOk_by (N := ["_law_said", "_law_rows", "_law_row", "_law_acts", "_law_lots", "_law_names_here"]) (sc := defScope sLdu) (by decide +kernel)) (fun _ _ _ _ _ => (pg_name (i := 5) scLdu.nd rfl (Or.inl rfl))) (fun _ _ _ _ _ => pts_nil) (fun _ _ _ _ _ => (pe_cmpR op_le (pe_callB cr_lenH (by rfl) T.len PySem.boot_len (pa_cons (pv 5) pa_nil)) pe_int (nomark _)))) pa_nil))) (pe_callTy call_tuple_of (by rfl) T.tuple (by decide +kernel) (pa_cons (pv 4) pa_nil)) (pe_lst (pa_cons (pe_callB call_len_seq (by rfl) T.len PySem.boot_len (pa_cons (pv 1) pa_nil)) pa_nil)))))))))), ?_⟩
    rw [show L2.start ["_law_said", "_law_rows", "_law_row", "_law_acts", "_law_lots", "_law_names_here"] [.str z] = [some (.str z), none, none, none, none, none] from rfl]
    dsimp only [cxOf, Cx.nox, Cx.wish]
    with_reducible refine go_seq ?_
    have few := split_few (x := z) sep_nl
    have short : ∀ p ∈ Txt.split z "\n", p.length ≤ z.length := fun p hp => split_short sep_nl hp
    have q : ∀ v H2, Same H H2 → Dr H2 v (match parsedP z with | .ok (a, b) => .tuple [strsD a, strsD b] | .error n => .list [.int n]) → Q v H2 := q
    unfold parsedP at q
    with_reducible refine go_asg ?_
    refine ⟨_, rfl, rfl, _, _, rfl, rfl, by decide +kernel, by omega, fun l nl => ?_⟩
    have s0 := same_upd (o := .lst ((Txt.split z "\n").map V.str)) nl
    have hl0 := upd_same (H := H) (a := l) (o := .lst ((Txt.split z "\n").map V.str))
    change ∃ a, _
    generalize upd H l (.lst ((Txt.split z "\n").map V.str)) = G0 at s0 hl0 ⊢
    generalize Txt.split z "\n" = rows at *
    have ff : flatA (rows.map fun r => rwD (rowP r)) = true := flatA_of fun d hd => by
      obtain ⟨r, _, rfl⟩ := List.mem_map.mp hd
      exact rwD_facts.1
    refine ⟨l, rfl, ⟨_, SqL.of hl0⟩, fun D nD => lcoR (rows.map fun r => rwD (rowP r)) (walk_lst hl0 nD) (by rw [List.length_map, List.length_map]) ff (by rw [List.length_map]; omega) nD (fun t x d G2 R lt hx hd s2 r1 => ?_) (fun G1 us s1 hus hD => ?_)⟩
    · have hx1 : (rows.map V.str)[t]? = some x := hx
      rw [List.getElem?_map] at hx1 hd
      cases hq : rows[t]? with
      | none =>
        rw [hq] at hx1
        cases hx1
      | some r =>
        rw [hq] at hx1 hd
        cases hx1
        cases hd
        have := short r (List.mem_of_getElem? hq)
        exact ⟨rfl, _, rfl, r, rfl, by omega, fun v G3 s3 hv => r1 v G3 s3 hv⟩
    have sG1 := same_tr s0 s1
    clear hl0 s1 nD s0
    change Ends.nx _ _ _
    dsimp only [List.set]
    have hlay : PyData.canLayAll0 (rows.map fun r => rwD (rowP r)) = true := lay_all fun d hd => by
      obtain ⟨r, _, rfl⟩ := List.mem_map.mp hd
      exact rwD_facts.2.1
    with_reducible refine go_seq ?_
    with_reducible refine g_if ?_
    with_reducible refine g_test ?_
    with_reducible refine g_op ?_
    refine ⟨_, rfl, .none, _, .non, .inr (.lst hD hus), hlay, rfl, Nat.zero_le _, _, rfl, ?_⟩
    rw [if_neg Bool.false_ne_true, any_none]
    cases hall : (rows.all fun r => (rowP r).isSome) with
    | false =>
      refine if_t rfl ?_
      rw [hall, if_neg Bool.false_ne_true] at q
      with_reducible refine g_ret ?_
      have hex : ∃ r ∈ rows, (!(rowP r).isSome) = true := by
        rw [List.all_eq_false] at hall
        obtain ⟨r, hr, h⟩ := hall
        exact ⟨r, hr, by simpa using h⟩
      have hlt : (rows.findIdx fun r => !(rowP r).isSome) < rows.length := List.findIdx_lt_length_of_exists hex
      have hat := List.findIdx_getElem (w := hlt)
      have hnone : rowP rows[rows.findIdx fun r => !(rowP r).isSome] = none := by
        cases hq : rowP rows[rows.findIdx fun r => !(rowP r).isSome] with
        | none => rfl
        | some its =>
          rw [hq] at hat
          cases hat
      have hnd : PyData.hasDictAll (rows.map fun r => rwD (rowP r)) = false := by
        have gen : ∀ ds : List PyData, (∀ d ∈ ds, d.hasDict = false) → PyData.hasDictAll ds = false := by
          intro ds
          induction ds with
          | nil => exact fun _ => rfl
          | cons d ds ih =>
            intro h
            show (d.hasDict || PyData.hasDictAll ds) = false
            rw [h d List.mem_cons_self, ih fun x hx => h x (List.mem_cons_of_mem _ hx)]
            rfl
        exact gen _ fun d hd => by
          obtain ⟨r, _, rfl⟩ := List.mem_map.mp hd
          exact rwD_facts.2.2.2
      have hsh : SeqAt.shaped (.list (rows.map fun r => rwD (rowP r))) = true := by
        have dep : PyData.depthAll (rows.map fun r => rwD (rowP r)) ≤ 2 := depth_all fun d hd => by
          obtain ⟨r, _, rfl⟩ := List.mem_map.mp hd
          exact rwD_facts.2.2.1
        unfold SeqAt.shaped
        rw [Bool.and_eq_true]
        refine ⟨hlay, decide_eq_true ?_⟩
        show PyData.depthAll (rows.map fun r => rwD (rowP r)) + 1 ≤ 64
        omega
      refine ⟨_, rfl, .inl ⟨rfl, _, SqL.of hD⟩, .non, .none, _, rows.findIdx fun r => !(rowP r).isSome, .none, rfl, .lst hD hus, .non, hnd, rfl, hsh, by decide +kernel, ?_, rfl, fun m y hm hy => ?_, (show 1 ≤ sizeLine by decide), fun L nL => ?_⟩
      · rw [List.getElem?_map, List.getElem?_eq_getElem hlt]
        show some (rwD (rowP _)) = _
        rw [hnone]
        rfl
      · have hml : m < rows.length := by omega
        rw [List.getElem?_map, List.getElem?_eq_getElem hml] at hy
        cases hy
        have hno := List.not_of_lt_findIdx hm
        cases hq : rowP rows[m] with
        | none =>
          rw [hq] at hno
          exact absurd hno (by decide)
        | some p =>
          show PyData.eqv (rwD (rowP rows[m])) .none = false
          rw [hq]
          rfl
      · exact q _ _ (same_tr sG1 (same_upd nL)) (.lst upd_same (.cons (.int _) .nil))
    | true =>
    refine if_f rfl ?_
    with_reducible refine go_next ?_
    rw [hall, if_pos rfl] at q
    obtain ⟨prs, eprs⟩ := all_some hall
    have hln : rows.length = prs.length := by
      have e := congrArg List.length eprs
      rw [List.length_map, List.length_map] at e
      exact e
    have hprs : ∀ (i : Nat) (p : Str × List Str), prs[i]? = some p → ∃ r ∈ rows, rowP r = some p := fun i p hp => by
      have e : (rows.map rowP)[i]? = some (some p) := by rw [eprs, List.getElem?_map, hp]; rfl
      rw [List.getElem?_map] at e
      cases hq : rows[i]? with
      | none =>
        rw [hq] at e
        cases e
      | some r =>
        rw [hq] at e
        exact ⟨r, List.mem_of_getElem? hq, Option.some.inj e⟩
    have hnames : ∀ p ∈ prs, p.2.all isNameS = true ∧ p.2.length ≤ 4000 := fun p hp => by
      obtain ⟨i, hi⟩ := List.getElem?_of_mem hp
      obtain ⟨r, hr, e⟩ := hprs i p hi
      obtain ⟨w, ns⟩ := p
      obtain ⟨_, k2, k3⟩ := row_some e
      refine ⟨k2, ?_⟩
      have k4 := split_few (x := r) sep_sp
      have k5 := short r hr
      rw [k3, List.length_cons] at k4
      have k6 : ns.length ≤ (orDash ns).length := by
        unfold orDash
        split
        · rename_i h
          rw [h]
          exact Nat.zero_le _
        · exact Nat.le_refl _
      show ns.length ≤ 4000
      omega
    have hdat : (rows.map fun r => rwD (rowP r)) = prs.map fun p => .tuple [.str p.1, strsD p.2] := by
      have e : (rows.map fun r => rwD (rowP r)) = (rows.map rowP).map rwD := by rw [List.map_map]; rfl
      rw [e, eprs, List.map_map]
      rfl
    rw [hdat] at hus
    rw [eprs] at q
    have hlus : us.length = rows.length := by rw [hus.len, List.length_map, hln]
    clear eprs hprs hlay ff
    have bad : ∀ G3 (v : V), Same G1 G3 → progL (prs.map some) = none → Dr G3 v (.list [.int ((us.length : Nat) : Int)]) → Q v G3 := fun G3 v s3 hb hv => by
      rw [hb] at q
      rw [hlus] at hv
      exact q v G3 (same_tr sG1 s3) hv
    with_reducible refine go_seq ?_
    with_reducible refine g_par ?_
    refine ⟨Nat.zero_le _, fun Aa nA => ⟨Nat.zero_le _, fun Lo nL => ⟨_, _, rfl, ?_⟩⟩⟩
    have l0 := ((Ls.one hD).add (xs := []) nA).add (xs := []) nL
    have sA := same_tr (same_upd (o := .lst []) nA) (same_upd (o := .lst []) nL)
    have nL1 : G1 Lo = none := none_of_same (same_upd (o := .lst []) nA) nL
    change Ends.nx _ _ (upd _ _ _)
    dsimp only [List.set]
    generalize upd (upd G1 Aa (.lst [])) Lo (.lst []) = G2 at l0 sA ⊢
    with_reducible refine go_seq ?_
    refine ⟨_, rfl, D, rfl, ⟨_, SqL.of (sA _ _ hD)⟩, for_list (xs := us) (fun j σ G => ∃ (v2 v5 : Option V) (lvs : List V), σ = [some (.str z), some (.ref D), v2, some (.ref Aa), some (.ref Lo), v5] ∧ Same G1 G ∧ Ls G [(Lo, lvs), (Aa, (prs.take j).map fun p => V.str p.1), (D, us)] ∧ DrAll G lvs ((prs.take j).map fun p => strsD p.2)) ⟨_, _, [], rfl, sA, l0, .nil⟩ (fun j σ G _ hP => ?_) (fun j x σ G hx hP => ?_) (fun σ G hP => ?_)⟩
    · obtain ⟨_, _, _, _, _, l, _⟩ := hP
      exact SqL.of l.g2
    · obtain ⟨v2, v5, lvs, rfl, sG, l, hlv⟩ := hP
      obtain ⟨d, hd, hdr⟩ := hus.get hx
      rw [List.getElem?_map] at hd
      cases hq : prs[j]? with
      | none =>
        rw [hq] at hd
        cases hd
      | some p =>
      rw [hq] at hd
      cases hd
      have etk : prs.take (j + 1) = prs.take j ++ [p] := by
        rw [List.take_add_one, hq]
        rfl
      obtain ⟨pt, pn, rfl, hpt, hpn⟩ : ∃ pt pn, x = .ref pt ∧ G1 pt = some (.tup [.str p.1, .ref pn]) ∧ G1 pn = some (.tup (p.2.map V.str)) := by
        cases hdr with
        | tup hp hal =>
          cases hal with
          | cons x1 hal =>
            cases x1
            cases hal with
            | cons x2 hal =>
              cases hal
              obtain ⟨pn, rfl, k⟩ := dr_strsD x2
              exact ⟨_, pn, rfl, hp, k⟩
      have fl : flatA ((prs.take j).map fun p => strsD p.2) = true := flatA_of fun d hd => by
        obtain ⟨x, _, rfl⟩ := List.mem_map.mp hd
        exact flat_strsD
      have hjl : (prs.take j).length ≤ 4001 := by
        rw [List.length_take]
        omega
      have hlvl := hlv.len
      rw [List.length_map] at hlvl
      with_reducible refine go_name ?_
      dsimp only [List.set]
      with_reducible refine go_seq ?_
      with_reducible refine go_drop ?_
      refine g_bm rfl (.inl ⟨rfl, _, SqL.of l.g1⟩) ?_
      dsimp only [tNoPart]
      refine ⟨_, rfl, _, .inr (.inl ⟨_, SqT.of (sG _ _ hpt), rfl⟩), if_t rfl ⟨pt, _, rfl, .inr (SqT.of (sG _ _ hpt)), fun l1 nl1 => ⟨_, rfl, l1, _, rfl, SqL.of upd_same, fun l2 nl2 => ?_⟩⟩⟩
      have ec1 : cutV [V.str p.1, V.ref pn] none (some 1) = [V.str p.1] := cutTo [V.str p.1, V.ref pn] 1 (show 1 ≤ 2 by decide)
      rw [ec1]
      have s3 := same_tr (same_upd (o := .lst [V.str p.1, V.ref pn]) nl1) (same_upd (o := .lst [V.str p.1]) nl2)
      have l3 := l.mono s3
      have h3 := upd_same (H := upd G l1 (.lst [V.str p.1, V.ref pn])) (a := l2) (o := .lst [V.str p.1])
      have sG3 := same_tr sG s3
      have hlv3 := hlv.mono s3
      have ec2 : cutV [V.str p.1, V.ref pn] (some 1) none = [V.ref pn] := cutFrom [V.str p.1, V.ref pn] 1 (show 1 ≤ 2 by decide)
      change rExtend _ _ (upd _ _ _) _
      generalize upd (upd G l1 (.lst [V.str p.1, V.ref pn])) l2 (.lst [V.str p.1]) = G3 at l3 h3 sG3 hlv3 ⊢
      refine ⟨Aa, l2, _, _, rfl, rfl, l3.g1, h3, by rw [List.length_map, List.length_singleton]; omega, ?_⟩
      have l4 := l3.put1 (((prs.take j).map fun p => V.str p.1) ++ [V.str p.1])
      have sG4 : Same G1 (upd G3 Aa (.lst (((prs.take j).map fun p => V.str p.1) ++ [V.str p.1]))) := (Sab.refl.upd : Sab Aa G3 _).same sG3 nA
      have hlv4 := (Kp.put (ys := ((prs.take j).map fun p => V.str p.1) ++ [V.str p.1]) l3.g1).drs fl hlv3
      change tDrop _ _ _ (upd _ _ _)
      generalize upd G3 Aa (.lst (((prs.take j).map fun p => V.str p.1) ++ [V.str p.1])) = G4 at l4 sG4 hlv4 ⊢
      with_reducible refine go_drop ?_
      refine g_bm rfl (.inl ⟨rfl, _, SqL.of l4.g0⟩) ?_
      refine ⟨_, rfl, _, .inr (.inl ⟨_, SqT.of (sG4 _ _ hpt), rfl⟩), if_t rfl ⟨pt, _, rfl, .inr (SqT.of (sG4 _ _ hpt)), fun l5 nl5 => ⟨_, rfl, l5, _, rfl, SqL.of upd_same, fun l6 nl6 => ?_⟩⟩⟩
      rw [ec2]
      have s5 := same_tr (same_upd (o := .lst [V.str p.1, V.ref pn]) nl5) (same_upd (o := .lst [V.ref pn]) nl6)
      have l5' := l4.mono s5
      have h5 := upd_same (H := upd G4 l5 (.lst [V.str p.1, V.ref pn])) (a := l6) (o := .lst [V.ref pn])
      have sG5 := same_tr sG4 s5
      have hlv5 := hlv4.mono s5
      change rExtend _ _ (upd _ _ _) _
      generalize upd (upd G4 l5 (.lst [V.str p.1, V.ref pn])) l6 (.lst [V.ref pn]) = G5 at l5' h5 sG5 hlv5 ⊢
      refine ⟨Lo, l6, _, _, rfl, rfl, l5'.g0, h5, by rw [List.length_singleton]; omega, ?_⟩
      have l6' := l5'.put0 (lvs ++ [V.ref pn])
      have kp := Kp.put (ys := lvs ++ [V.ref pn]) l5'.g0
      have sG6 : Same G1 (upd G5 Lo (.lst (lvs ++ [V.ref pn]))) := (Sab.refl.upd : Sab Lo G5 _).same sG5 nL1
      refine ⟨_, _, lvs ++ [V.ref pn], rfl, sG6, ?_, ?_⟩
      · rw [etk, List.map_append]
        exact l6'
      · rw [etk, List.map_append]
        exact (kp.drs fl hlv5).snoc (.tup (kp.tup (sG5 _ _ hpn)) (dr_strs p.2))
    · obtain ⟨v2, v5, lvs, rfl, sG, l, hlv⟩ := hP
      have etk : prs.take us.length = prs := List.take_of_length_le (by omega)
      rw [etk] at l hlv
      have ea : (prs.map fun p => V.str p.1) = (prs.map (·.1)).map V.str := by rw [List.map_map]; rfl
      rw [ea] at l
      have ret : ∀ G3, Same G G3 → progL (prs.map some) = none → tRet (tLst (tCons (tCB (fun xs H Q => ∃ p ys, xs = [V.ref p] ∧ (SqL K H p ys ∨ SqT K H p ys) ∧ Q (V.int ↑ys.length) H) (tCons (tVar 1) tNil)) tNil)) { nx := fun x H1 => Q V.non H1, rt := Q } [some (.str z), some (.ref D), v2, some (.ref Aa), some (.ref Lo), v5] G3 := fun G3 s3 hn =>
        ⟨_, rfl, D, us, rfl, .inl (SqL.of (s3 _ _ l.g2)), (show 1 ≤ sizeLine by decide), fun L nL => bad _ _ (same_tr sG (same_tr s3 (same_upd nL))) hn (.lst upd_same (.cons (.int _) .nil))⟩
      with_reducible refine go_seq ?_
      with_reducible refine g_if ?_
      refine g_or (g_test (g_op ⟨_, rfl, (show 2 ≤ sizeLine by decide), fun t nt => ⟨Aa, t, prs.map (·.1), [dfnS, ndsS], rfl, rfl, same_upd nt _ _ l.g1, upd_same, _, rfl, ?_⟩⟩))
      rw [if_pos rfl]
      have st := same_upd (o := .lst [V.str dfnS, V.str ndsS]) nt
      by_cases hc : prs.map (·.1) = [dfnS, ndsS]
      · refine if_f (by rw [decide_eq_true hc]; rfl) ?_
        obtain ⟨a, b, rfl⟩ := prs_two hc
        obtain ⟨na, la⟩ := hnames (dfnS, a) (by simp)
        obtain ⟨nb, lb⟩ := hnames (ndsS, b) (by simp)
        have epl : progL ([(dfnS, a), (ndsS, b)].map some) = if okLot a = true ∧ okLot b = true then some (a, b) else none := by
          show (if dfnS = dfnS ∧ ndsS = ndsS ∧ okLot a = true ∧ okLot b = true then some (a, b) else none) = _
          by_cases h : okLot a = true ∧ okLot b = true
          · rw [if_pos ⟨rfl, rfl, h⟩, if_pos h]
          · rw [if_neg fun k => h k.2.2, if_neg h]
        have hlv : DrAll G lvs [strsD a, strsD b] := hlv
        have two : ∀ (G3 : Hp) (x : V) (t : Nat), Same G G3 → lvs[t]? = some x → ∃ p zs, x = .ref p ∧ G3 p = some (.tup (zs.map V.str)) ∧ [a, b][t]? = some zs ∧ zs.length ≤ 4000 ∧ zs.all isNameS = true := fun G3 x t s3 hx => by
          obtain ⟨d, hd, hdr⟩ := hlv.get hx
          match t, hd with
          | 0, hd =>
            cases hd
            obtain ⟨p, rfl, hp⟩ := dr_strsD (hdr.mono s3)
            exact ⟨p, a, rfl, hp, rfl, la, na⟩
          | 1, hd =>
            cases hd
            obtain ⟨p, rfl, hp⟩ := dr_strsD (hdr.mono s3)
            exact ⟨p, b, rfl, hp, rfl, lb, nb⟩
        have l2 : lvs.length = 2 := hlv.len
        have hsc : scanBound = 4096 := rfl
        refine g_not (g_tb (g_cb ?_))
        have hLt := st _ _ l.g0
        refine ⟨_, rfl, Lo, rfl, ⟨_, SqL.of hLt⟩, fun D2 nD2 => lco ([a, b].map fun zs => some (V.bl (ascS zs))) (walk_lst hLt nD2) (by rw [l2]; rfl) (by omega) nD2 (fun t x o H2 R R0 lt hx ho s2 r1 r0 => ?_) (fun H2 s2 hD2 => ?_)⟩
        · obtain ⟨p, zs, rfl, hp, hzs, hzl, hzn⟩ := two H2 x t (same_tr st s2) hx
          rw [List.getElem?_map, hzs] at ho
          cases ho
          refine ⟨rfl, ?_⟩
          refine g_yes ?_
          refine g_op ⟨_, rfl, p, _, rfl, .inr hp, fun l1 nl1 => ⟨_, rfl, p, zs, rfl, .inr (same_upd nl1 _ _ hp), by omega, fun S nS => ⟨S, _, rfl, upd_same, fun l2 nl2 => ?_⟩⟩⟩
          have y1 := same_upd (o := .lst (zs.map V.str)) nl1
          have y2 := same_upd (o := SetT w S (firsts zs)) nS
          have y3 := same_upd (o := .lst ((sortS (firsts zs)).map V.str)) nl2
          have y23 := same_tr y2 y3
          refine ⟨l1, l2, zs, sortS (firsts zs), rfl, rfl, y23 _ _ upd_same, upd_same, ?_⟩
          rw [if_neg Bool.false_ne_true]
          have e4 : decide (zs = sortS (firsts zs)) = ascS zs := by
            cases ha : ascS zs with
            | true => exact decide_eq_true (asc_self ha).symm
            | false =>
              refine decide_eq_false fun e => ?_
              have z := asc_set zs
              rw [← e, ha] at z
              cases z
          rw [e4]
          exact r1 _ _ rfl (same_tr y1 y23)
        · rw [keep_some] at hD2
          refine ⟨D2, [a, b].map ascS, rfl, SqL.of hD2, _, rfl, ?_⟩
          have ea : ([a, b].map ascS).all id = (ascS a && ascS b) := by
            show (ascS a && (ascS b && true)) = _
            rw [Bool.and_true]
          rw [ea]
          have s3 := same_tr st s2
          cases hasc : (ascS a && ascS b) with
          | false =>
            refine if_t rfl (ret H2 s3 ?_)
            rw [epl]
            refine if_neg fun h => ?_
            have h1 := (Bool.and_eq_true_iff.mp h.1).1
            have h2 := (Bool.and_eq_true_iff.mp h.2).1
            rw [h1, h2] at hasc
            cases hasc
          | true =>
            obtain ⟨aa, ab⟩ := Bool.and_eq_true_iff.mp hasc
            refine if_f rfl ?_
            with_reducible refine go_next ?_
            with_reducible refine g_ret ?_
            have hL3 := s3 _ _ l.g0
            refine g_ife (g_tb (g_cb ⟨_, rfl, Lo, rfl, ⟨_, SqL.of hL3⟩, fun D3 nD3 => lco ([a, b].map fun zs => some (V.bl (decide (zs.length ≤ 200)))) (walk_lst hL3 nD3) (by rw [l2]; rfl) (by omega) nD3 (fun t x o H3 R R0 lt hx ho s4 r1 r0 => ?_) (fun H3 s4 hD3 => ?_)⟩))
            · obtain ⟨p, zs, rfl, hp, hzs, hzl, hzn⟩ := two H3 x t (same_tr s3 s4) hx
              rw [List.getElem?_map, hzs] at ho
              cases ho
              refine ⟨rfl, ?_⟩
              refine g_yes ?_
              refine g_op ⟨_, rfl, p, _, rfl, .inr hp, _, _, rfl, rfl, ?_⟩
              have e4 : decide (((zs.map V.str).length : Int) ≤ 200) = decide (zs.length ≤ 200) := decide_eq_decide.mpr (by rw [List.length_map]; omega)
              show R (V.bl (decide (((zs.map V.str).length : Int) ≤ 200))) H3
              rw [e4]
              exact r1 _ _ rfl (Same.refl _)
            · rw [keep_some] at hD3
              refine ⟨D3, [a, b].map fun zs => decide (zs.length ≤ 200), rfl, SqL.of (show H3 D3 = some (.lst (([a, b].map fun zs => decide (zs.length ≤ 200)).map V.bl)) from hD3), _, rfl, ?_⟩
              have ea : ([a, b].map fun zs => decide (zs.length ≤ 200)).all id = (decide (a.length ≤ 200) && decide (b.length ≤ 200)) := by
                show (decide (a.length ≤ 200) && (decide (b.length ≤ 200) && true)) = _
                rw [Bool.and_true]
              rw [ea]
              have s5 := same_tr s3 s4
              cases hlen : (decide (a.length ≤ 200) && decide (b.length ≤ 200)) with
              | false =>
                refine if_f rfl (ret H3 s5 ?_)
                rw [epl]
                refine if_neg fun h => ?_
                have h1 := (Bool.and_eq_true_iff.mp h.1).2
                have h2 := (Bool.and_eq_true_iff.mp h.2).2
                rw [h1, h2] at hlen
                cases hlen
              | true =>
                obtain ⟨ka, kb⟩ := Bool.and_eq_true_iff.mp hlen
                rw [epl, if_pos ⟨Bool.and_eq_true_iff.mpr ⟨aa, ka⟩, Bool.and_eq_true_iff.mpr ⟨ab, kb⟩⟩] at q
                refine if_t rfl ⟨_, rfl, Lo, lvs, rfl, .inl ⟨SqL.of (s5 _ _ l.g0), fun tp ntp => ?_⟩⟩
                exact q _ _ (same_tr sG1 (same_tr sG (same_tr s5 (same_upd ntp)))) (.tup upd_same ((hlv.mono s5).mono (same_upd ntp)))
      · refine if_t (by rw [decide_eq_false hc]; rfl) (if_t rfl (ret _ st (progL_no hc)))
end

end LK
namespace LK
open PySem PySem.Spec PyProof.Rows L2

abbrev sPsd : Stmt := topS 33
theorem scPsd : FnScope ["_law_call", "_law_caught", "_law_told", "error"] ["_law_call"] (defScope sPsd) := ⟨rfl, rfl, rfl, by decide +kernel, rfl, by decide +kernel, by decide +kernel⟩
open LamX (CodeO GivesTo)
/-- found = call(), where the call may raise -/
def tbC (f c' : Addr) (q : Str) (j : Nat) (tl : XK → Hp → VK → Prop) : WX → TS := fun W D σ H => ∃ (E : XK) (R : VK), (∀ cls d σ2 H2, E cls d H2 → W cls d σ2 H2) ∧ σ[0]? = some (some (.ref f)) ∧ H c' = some (CodeO c' q) ∧ tl E H R ∧ ∀ v H2, R v H2 → D.nx (σ.set j (some v)) H2
theorem act_body {Z : Cx} {a n : Str} {f c' : Addr} {q : Str} {j : Nat} {tl : XK → Hp → VK → Prop} {W : WX} {p1 p2 p3 p4 : Pos}
    (hp : ∀ E : XK, (∀ cls d σ H, E cls d H → W cls d σ H) → PE Z (.Call (.Name a p1) [] [] p2) (fun σZ HZ Q => σZ[0]? = some (some (.ref f)) ∧ HZ c' = some (CodeO c' q) ∧ tl E HZ Q)) (nd : Z.N.Nodup) (hj : Z.N[j]? = some n) (hl : Z.env.scope.names.lookup n = some .local) :
    PSs Z [.Assign [.Name n p3] (.Call (.Name a p1) [] [] p2) p4] (tbC f c' q j tl W) := by
  refine ⟨fun pins s σ H D I h => ?_⟩
  obtain ⟨E, R, hE, h1, h2, h3, h4⟩ := h
  exact (pss_one (ps_set (i := j) nd hj (Or.inl hl) (pe_up (hp E hE)) (hf := .inr hl))).run pins s σ H D I ⟨R, ⟨h1, h2, h3⟩, h4⟩
/-- what is made of a call: its answer, or the row of its error -/
def ecQ (CP : Addr) (Q : VK) : XK := fun cls d H2 => cls = .ref CP ∧ ∃ (dd : Addr) (n : Int), d = some dd ∧ H2 dd = some (.xd [("row", .int n)]) ∧ ∀ G L, Same H2 G → G L = some (.lst [.int n]) → Q (.ref L) G
def TTc (CP : Addr) : (XK → Hp → VK → Prop) → Hp → VK → Prop := fun tl H Q => ∀ H1, Same H H1 → tl (ecQ CP Q) H1 Q
/-- what is known of the classes -/
structure ErrK (K : PySem.W.Frag) (CE CL CP : Addr) : Prop where
  hit : PySem.W.exmOne K (.ref CP) (.ref CE) = some true
  ec : ExcC K CP
  ef : ErrF K CP "row"
  ve : PySem.W.kitOne K (.ref CP) (.type "ValueError") = some true
  no : PySem.W.kitOne K (.ref CP) (.ref CL) = some false
theorem go_if {c : TT} {t u : TS} {D : Ends} {σ : L2.St} {H : Hp} (h : c σ H fun b H1 => if b = true then t D σ H1 else u D σ H1) : tIfS c t u D σ H := h
theorem go_ret {te : TE} {D : Ends} {σ : L2.St} {H : Hp} (h : te σ H D.rt) : tRet te D σ H := h
theorem ift {b : Bool} {p q : Prop} (h : b = true) (k : p) : if b = true then p else q := by
  rw [h]
  exact k
theorem parsed_gives {X : Cx} {g : Addr} {cdg : Value} {q : Str} {CE CL CP : Addr} (T : Bi X.mg) (EK : ErrK X.K CE CL CP) (mLE : X.mg "LinkError" = some (.ref CE)) (mPE : X.mg "ParseError" = some (.ref CP)) (mIL : X.mg "InvalidLine" = some (.ref CL)) (mVE : X.mg "ValueError" = none) :
    GivesTo X ["_law_call", "_law_caught", "_law_told", "error"] "_law_parsed" (defScope sPsd) g cdg (defBody sPsd) "_law_call" q (TTc CP) := by
  intro f c' s H Q tl act hc h
  refine ⟨_, (pss_cons (ps_asg (pe_tup (pa_cons pe_non (pa_cons pe_non pa_nil))) (pg_tup rfl (pgs_cons (pg_name (i := 1) scPsd.nd rfl (Or.inl rfl)) (pgs_cons (pg_name (i := 2) scPsd.nd rfl (Or.inl rfl)) pgs_nil))))
      (pss_cons (ps_try_keep (i := 3) (tb := tbC f c' q 2 tl) rfl rfl scPsd.nd rfl rfl ⟨rfl, by decide, .inl mLE⟩ rfl (fun W pn xe tk _ => act_body (fun E hE => act W pn xe E _ _ tk hE) scPsd.nd rfl rfl) (fun e oe kl dd pn _ _ => pss_one (ps_set (i := 1) scPsd.nd rfl (Or.inl rfl) (pv 3))))
      (pss_cons (ps_if (pt_cmpR op_isN (pv 1) pe_non (nomark _)) (pss_one (ps_ret (pv 2))) pss_nil)
      (pss_cons (ps_if (PW.pt (pw_and (pt_val (pe_callB call_isErr (by rfl) T.isi (by decide +kernel) (pa_cons (pv 1) (pa_cons (pe_glob (v := .ref CP) rfl mPE rfl) pa_nil)))) (pw_and (pt_val (pe_callB call_isErr (by rfl) T.isi (by decide +kernel) (pa_cons (pv 1) (pa_cons (pe_bltn (v := .ty "ValueError") (u := .type "ValueError") rfl mVE (by decide +kernel) rfl) pa_nil)))) (pw_and1 (pt_not (pt_val (pe_callB call_isErr (by rfl) T.isi (by decide +kernel) (pa_cons (pv 1) (pa_cons (pe_glob (v := .ref CL) rfl mIL rfl) pa_nil))))))))) (pss_one (ps_ret (pe_lst (pa_cons (pe_errF (pv 1)) pa_nil)))) pss_nil)
      (pss_one (ps_ret (pe_lst (pa_cons pe_str pa_nil)))))))), ?_⟩
  dsimp only [cxOf, Cx.nox, Cx.wish]
  rw [show L2.start ["_law_call", "_law_caught", "_law_told", "error"] [.ref f] = [some (.ref f), none, none, none] from rfl]
  with_reducible refine go_seq ?_
  refine ⟨(show 2 ≤ sizeLine by decide), fun t0 nt0 => ⟨t0, _, rfl, SqT.of upd_same, rfl, _, _, rfl, _, _, rfl, rfl, ?_⟩⟩
  with_reducible refine go_seq ?_
  refine ⟨ecQ CP Q, Q, fun cls d τ G hE => ?_, rfl, same_upd nt0 _ _ hc, h _ (same_upd nt0), fun v G hv => ?_⟩
  · obtain ⟨rfl, dd, n, rfl, hdd, k⟩ := hE
    refine ⟨EK.hit, fun e ne hl => ?_⟩
    match τ, hl with
    | [a0, a1, a2, a3], _ =>
      have ie := same_upd (o := ErrO (.ref CP) (some dd) e) ne
      have hde := ie _ _ hdd
      refine ⟨_, rfl, ?_⟩
      with_reducible refine go_name ?_
      dsimp only [List.set]
      have he := upd_same (H := G) (a := e) (o := ErrO (.ref CP) (some dd) e)
      generalize upd G e (ErrO (.ref CP) (some dd) e) = G2 at ie hde he ⊢
      have hxd : ∀ x, some dd = some x → ∃ fs, G2 x = some (.xd fs) := fun x z => by
        cases z
        exact ⟨_, hde⟩
      have self : PySem.W.kitOne X.K (.ref CP) (.ref CP) = some true := by
        unfold PySem.W.kitOne
        rw [if_pos (beq_self_eq_true _)]
      with_reducible refine go_seq ?_
      with_reducible refine go_if ?_
      refine ⟨_, rfl, rfl, _, rfl, ifn (decide_eq_false (by intro z; cases z)) ?_⟩
      with_reducible refine go_next ?_
      with_reducible refine go_seq ?_
      with_reducible refine go_if ?_
      refine ⟨_, rfl, e, CP, some dd, .ref CP, .ref CP, true, rfl, he, hxd, EK.ec, fun u r => r, self, _, rfl, ift rfl ?_⟩
      refine ⟨_, rfl, e, CP, some dd, .ty "ValueError", .type "ValueError", true, rfl, he, hxd, EK.ec, fun u r => r, EK.ve, _, rfl, ift rfl ?_⟩
      refine ⟨_, rfl, e, CP, some dd, .ref CL, .ref CL, false, rfl, he, hxd, EK.ec, fun u r => r, EK.no, _, rfl, ift rfl ?_⟩
      with_reducible refine go_ret ?_
      exact ⟨_, rfl, e, CP, dd, _, .int n, rfl, he, hde, rfl, EK.ef, (show 1 ≤ sizeLine by decide), fun t nt => k _ t (same_tr ie (same_upd nt)) upd_same⟩
  · dsimp only [List.set]
    with_reducible refine go_seq ?_
    with_reducible refine go_if ?_
    refine ⟨_, rfl, rfl, _, rfl, ift rfl ?_⟩
    with_reducible refine go_ret ?_
    exact ⟨_, rfl, hv⟩

end LK
namespace LK
open PySem PySem.Spec PyProof.Rows L2

open LamX (ExtN Tabs TabS CodeO TabB LamS lamCx lamEnv tLam GivesTo)
section
variable {X : Cx}
/-- _law_parsed(lambda: body) -/
theorem pe_parsed {T : List (Addr × Str)} {c Pt g : Addr} {fd : FuncData} {k : Nat} {CE CL CP : Addr} {params : Arguments} {body : Expr} {scope : Scope} {t : XK → TE} {p lpos pos : Pos} (F : Fun X.K "_law_parsed" "_law_parsed" sPsd g fd) (hm : X.mg "_law_parsed" = some (.ref g)) (hg : Gl X "_law_parsed") (b : Binds X.K fd ["_law_call"] []) (Tb : Bi X.mg) (EK : ErrK X.K CE CL CP) (mLE : X.mg "LinkError" = some (.ref CE)) (mPE : X.mg "ParseError" = some (.ref CP)) (mIL : X.mg "InvalidLine" = some (.ref CL)) (mVE : X.mg "ValueError" = none)
    (TB : TabB X.base X.mg c Pt) (hcode : X.env.code = .ref c) (hmT : (Pt, X.env.qual ++ "<lambda>") ∈ T) (hu : ∀ p ∈ T, p.1 = Pt → p.2 = X.env.qual ++ "<lambda>") (hr : Room (k + 2) X.A) (L : LamS X.env.scope scope) (hdef : defaultsOf params X.env = ([], []))
    (hbind : ∀ (q : Str) (cl : List (Str × Addr)) (pm cv ctv : Value), bindArgs (PySem.W.kla_fn "<lambda>" q params body scope cl pm cv ctv) ⟨[], []⟩ = pure [])
    (hbody : ∀ (A : Around) (outer : List Env) (s : Shared) (H : Hp) (E : XK) (f c' : Addr), Room k (A.deeper (lamEnv X scope s.heap.objs.size f c')) → PE (lamCx X A outer s H E scope f c') body (t E)) :
    PE X (.Call (.Name "_law_parsed" p) [.Lambda params body scope lpos] [] pos) (tLam T (TTc CP) t) := by
  obtain ⟨oc, od, kV, doc, pm, an, cdv, ct, osl, rfl, lk, hcd⟩ := F.ex
  exact LamX.pe_lamcall hg hm F.kp lk hcd b scPsd rfl (by first | exact .inl rfl | exact .inl (.inl rfl) | exact .inr rfl) (parsed_gives Tb EK mLE mPE mIL mVE) TB hcode hmT hu hr L hdef hbind hbody
/-- the body of such a lambda: a def that may raise, called with what is captured -/
theorem pe_lamX {A : Around} {outer : List Env} {s : Shared} {H : Hp} {E : XK} {scope : Scope} {f c' : Addr} {x : Str} {k : Nat} {ps : List Str} {sp : Sp} {p pos : Pos} {e : Expr} {es : List Expr} {t : TA} (Lx : LnkX X.prog X.w X.K X.mg X.base x k ps sp) (hr : Room k (A.deeper (lamEnv X scope s.heap.objs.size f c'))) (hg : Gl (lamCx X A outer s H E scope f c') x) (ha : PA (lamCx X A outer s H E scope f c') (e :: es) t)
    (hdb : (x == ("__debug__" : Str)) = false := by decide) (he : starEach (e :: es) (lamCx X A outer s H E scope f c').env = (false, eval e (lamCx X A outer s H E scope f c').env) :: starEach es (lamCx X A outer s H E scope f c').env := by rfl) (hpl : (backTo pos (starEach es (lamCx X A outer s H E scope f c').env)).any (·.1) = false := by rfl) :
    PE (lamCx X A outer s H E scope f c') (.Call (.Name x p) (e :: es) [] pos) (tCall sp [] E t) :=
  pe_lnkX (X := lamCx X A outer s H E scope f c') Lx hr hg (passes_call (takes_of rfl rfl rfl rfl) (fun _ _ _ _ h => h)) ha hdb he hpl
end

end LK
namespace LK
open PySem PySem.Spec PyProof.Rows L2

/-! ### what stays where tables of code objects grow -/
open LamX (ExtN Tabs TabS CodeO)
section
variable {H H1 : Hp}
theorem tb_lst (e : ExtN H H1) {a : Addr} {xs : List V} (h : H a = some (.lst xs)) : H1 a = some (.lst xs) := e _ _ h (by intro ps z; cases z)
theorem tb_tup (e : ExtN H H1) {a : Addr} {xs : List V} (h : H a = some (.tup xs)) : H1 a = some (.tup xs) := e _ _ h (by intro ps z; cases z)
theorem tb_dk (e : ExtN H H1) {a : Addr} {kv : List (Key × V)} (h : H a = some (.dK kv)) : H1 a = some (.dK kv) := e _ _ h (by intro ps z; cases z)
mutual
theorem Dr.tb (e : ExtN H H1) : ∀ {v : V} {d : PyData}, Dr H v d → Dr H1 v d
  | _, _, .non => .non
  | _, _, .bl b => .bl b
  | _, _, .int i => .int i
  | _, _, .str x => .str x
  | _, _, .lst h k => .lst (tb_lst e h) (DrAll.tb e k)
  | _, _, .tup h k => .tup (tb_tup e h) (DrAll.tb e k)
  | _, _, .dct h => .dct (tb_dk e h)
theorem DrAll.tb (e : ExtN H H1) : ∀ {vs : List V} {ds : List PyData}, DrAll H vs ds → DrAll H1 vs ds
  | _, _, .nil => .nil
  | _, _, .cons h k => .cons (Dr.tb e h) (DrAll.tb e k)
end
theorem LibR.tb {C x : Addr} {as : List PyData} (h : LibR C H x as) (e : ExtN H H1) : LibR C H1 x as := by
  obtain ⟨dx, r, ho, so, va, es, h1, h2, h3, h4, h5, h6, h7⟩ := h
  exact ⟨dx, r, ho, so, va, es, e _ _ h1 (by intro ps z; cases z), h2.tb e, tb_dk e h3, h4, h5.tb e, tb_dk e h6, tb_dk e h7⟩
theorem WellAt.tb {a : Addr} {N : Nat} (h : WellAt H a N) (e : ExtN H H1) : WellAt H1 a N := by
  obtain ⟨o, b, n, h1, h2⟩ := h
  exact ⟨o, b, n, tb_lst e h1, h2⟩
theorem tabs_sab {T : List (Addr × Str)} {a : Addr} {xs : List V} (t : Tabs T H) (s : Sab a H H1) (ha : H a = some (.lst xs)) : Tabs T H1 := fun p hp => by
  obtain ⟨ps, h1, h2, h3⟩ := t p hp
  have ne : ∀ {b : Addr} {o : HO}, H b = some o → (∀ ys, o ≠ .lst ys) → b ≠ a := fun {b o} e n z => by
    rw [z, ha] at e
    exact n xs (Option.some.inj e).symm
  refine ⟨ps, s _ _ (ne h1 (by intro ys z; cases z)) h1, h2, fun pos cv hc => ?_⟩
  obtain ⟨c, e1, e2⟩ := h3 pos cv hc
  exact ⟨c, e1, s _ _ (ne e2 (by intro ys z; cases z)) e2⟩
theorem tabs_same {T : List (Addr × Str)} (t : Tabs T H) (s : Same H H1) : Tabs T H1 := t.ext s
theorem ext_same (s : Same H H1) : ExtN H H1 := fun b o h _ => s b o h
end

end LK
namespace LK
open PySem PySem.Spec PyProof.Rows L2

section
variable {P : Program} {w : World} {K : PySem.W.Frag} {mg : Str → Option Value} {base : Heap}
/-- as FnG.of, where the def's code object is known -/
theorem FnG.ofC {x qual : Str} {st : Stmt} {f : Addr} {fd : FuncData} {N ps : List Str} {k : Nat} {sp : Sp} (F : Fun K x qual st f fd) (S : FnScope N ps (defScope st)) (len : ∀ vs H Q E, sp vs H Q E → vs.length = ps.length)
    {c : Addr} (hc : ∀ (kV doc pm : Value) (an : Option Addr) (cdv ct : Value), fd = PySem.W.fnOf x qual (defArgs st) (defBody st) (defScope st) .none kV doc pm an cdv ct → cdv = .ref c) (body : ∀ (A : Around), A.guards = some [] → ∀ (outer : List Env) (s : Shared) (H : Hp) (vs : List V) (Q : VK) (E : XK), Room k (A.deeper (envOfC qual (defScope st) s.heap.objs.size f (.ref c))) → sp vs H Q E →
      ∃ t, PSs (cxOf CX0 P w K mg base N qual (defScope st) f (.ref c) A outer s H E).nox (defBody st) t ∧ t { nx := fun _ H1 => Q .non H1, rt := Q } (L2.start N vs) H) : FnG P w K mg base CX0 (k + 1) f fd ps sp := by
  obtain ⟨oc, od, kV, doc, pm, an, cdv, ct, osl, hfd, lk, hcd⟩ := F.ex
  have ec := hc _ _ _ _ _ _ hfd
  subst ec
  subst hfd
  refine ⟨len, fun A hG hr outer s H args us vs Q E e0 hb r hsp => ?_⟩
  -- the promise that holds at this one place alone
  have hl := len _ _ _ _ hsp
  have inK : K.In s.heap := e0.mod.kin.keeps fun b o z => (e0.bs b o z).1
  have lim : s.heap.NoLimit := e0.mod.nolimit.keeps fun b o z => (e0.bs b o z).1
  have kinds : ∀ y ∈ ps.zip us, (defScope st).names.lookup y.1 = some .local ∨ ((defScope st).names.lookup y.1 = some .cell ∧ ((cellsFrom (s.heap.objs.size + 1) (defScope st).names []).lookup y.1).isSome = true) := fun y hy => by
    obtain ⟨n, v⟩ := y
    rcases S.par n (List.of_mem_zip hy).1 with z | z
    · exact Or.inl z
    · exact Or.inr ⟨z, PySem.W.cellsFrom_some _ _ _ (Or.inl z)⟩
  refine codeAny_call_function hr.depth (inK _ _ lk) rfl S.co S.gen rfl (PySem.W.codeRec_of inK hcd) (hb _ _ _ _ ?_)
  refine wpAny_newFunctionEnv_cells S.kind kinds fun env he s1 ic => ?_
  subst he
  refine ⟨lim.keeps ic.toInCall.keep, codeAny_func ?_⟩
  obtain ⟨t, ht, hq⟩ := body A hG outer s H vs Q E (hr.deeper _) hsp
  have I0 : Inv (cxOf CX0 P w K mg base N qual (defScope st) f (.ref c) A outer s H E) [] (L2.start N vs) H s1 := inv_start S hr.hd e0 hl r ic
  refine wpAny_mono (ht.nox.run [] s1 (L2.start N vs) H _ I0 hq) (fun fl s2 hs => ?_) fun _ _ z => z
  have out : ∀ {σ2 : L2.St} {H2 : Hp} {v : V} {u : Value}, Inv (cxOf CX0 P w K mg base N qual (defScope st) f (.ref c) A outer s H E) [] σ2 H2 s2 → RelV v u → Q v H2 → CE outer P w H s Q u s2 :=
    fun {σ2 H2 v u} J rv z => ⟨v, H2, J.os, J.bare, J.base, J.hok, rv, z⟩
  cases fl with
  | ret u =>
    obtain ⟨v, σ2, H2, J, rv, z⟩ := hs
    exact out J rv z
  | next =>
    obtain ⟨σ2, H2, J, z⟩ := hs
    exact out (v := V.non) (u := Value.none) J rfl z
  | brk => exact hs.elim fun _ z => z.elim fun _ z => z.2.elim
  | cont => exact hs.elim fun _ z => z.elim fun _ z => z.2.elim
end

end LK
namespace LK
open PySem PySem.Spec PyProof.Rows L2

open LamX (ExtN Tabs TabS CodeO)
section
variable {H H1 : Hp}
theorem SqL.tb {K : PySem.W.Frag} {a : Addr} {xs : List V} (h : SqL K H a xs) (e : ExtN H H1) : SqL K H1 a xs := by
  rcases h with (h | ⟨o, h⟩) | h
  · exact .inl (.inl (e _ _ h (by intro ps z; cases z)))
  · exact .inl (.inr ⟨o, e _ _ h (by intro ps z; cases z)⟩)
  · exact .inr h
end
/-- what stays while nothing but tables grow, and the tables -/
def Gr (T : List (Addr × Str)) (H H1 : Hp) : Prop := ExtN H H1 ∧ Tabs T H1
section
variable {T : List (Addr × Str)} {H H1 H2 : Hp}
theorem Gr.same (g : Gr T H H1) (s : Same H1 H2) : Gr T H H2 := ⟨g.1.trans (ext_same s), tabs_same g.2 s⟩
theorem Gr.tb (g : Gr T H H1) (e : ExtN H1 H2) (t : Tabs T H2) : Gr T H H2 := ⟨g.1.trans e, t⟩
theorem Gr.lst (g : Gr T H H1) {p : Addr} {xs ys : List V} (np : H p = none) (h : H1 p = some (.lst xs)) : Gr T H (upd H1 p (.lst ys)) := by
  have sb : Sab p H1 (upd H1 p (.lst ys)) := Sab.refl.upd
  refine ⟨fun b o e n => ?_, tabs_sab g.2 sb h⟩
  rw [upd_ne (ne_of_none e np)]
  exact g.1 b o e n
theorem extN_none {p : Addr} (e : ExtN H H1) (n : H1 p = none) (t : ∀ ps, H p ≠ some (.tbl ps)) : H p = none := by
  cases z : H p with
  | none => rfl
  | some o =>
    rw [e _ _ z (fun ps w => t ps (by rw [z, w]))] at n
    cases n
end

end LK
namespace LK
open PySem PySem.Spec PyProof.Rows L2

abbrev sPiS : Stmt := topS 24
theorem scPiS : FnScope ["_law_well_here", "_law_some"] ["_law_well_here", "_law_some"] (defScope sPiS) := ⟨rfl, rfl, rfl, by decide +kernel, rfl, by decide +kernel, by decide +kernel⟩
/-- a sign of a text, drawn -/
def spPiS : Sp := fun vs H Q _ => ∃ (a : Addr) (N : Nat) (z : Str), vs = [.ref a, .str z] ∧ WellAt H a N ∧ N ≤ 2 ^ 40 ∧ 0 < z.length ∧ z.length ≤ 1000 ∧ ∀ (c : Str) (H2 : Hp), c.length = 1 → Sab a H H2 → WellAt H2 a (N + 1) → Q (.str c) H2
section
variable {P : Program} {w : World} {K : PySem.W.Frag} {mg : Str → Option Value} {base : Heap}
theorem ok_PiS {f : Addr} {fd : FuncData} {k : Nat} (F : Fun K "_law_pick" "_law_pick" sPiS f fd) (T : Bl mg) (LDraw : Lnk P w K mg base "_law_draw" k ["_law_well_here", "_law_below"] spDrw) : FnOk P w K mg base CX0 (k + 1) f fd ["_law_well_here", "_law_some"] spPiS := by
  refine F.ok scPiS (fun vs H Q E h => ?_) (fun cdv A outer s H vs Q E hr h => ?_)
  · obtain ⟨a, N, z, rfl, _⟩ := h
    rfl
  · obtain ⟨a, N, z, rfl, hw, hN, hpos, hl, q⟩ := h
    have ksz : 1000000 ≤ sizeLine := by decide
    refine ⟨_, (pss_one (ps_ret (pe_item_str (pv 1) (pe_lnk LDraw hr rfl (pa_cons (pv 0) (pa_cons (pe_callB call_len_str (by rfl) T.len PySem.boot_len (pa_cons (pv 1) pa_nil)) pa_nil))) (fun _ _ => rfl)))), ?_⟩
    rw [show L2.start ["_law_well_here", "_law_some"] [.ref a, .str z] = [some (.ref a), some (.str z)] from rfl]
    with_reducible refine g_ret ?_
    with_reducible refine g_op ?_
    refine ⟨_, rfl, _, rfl, _, rfl, z, rfl, by omega, a, _, N, rfl, hw, by omega, by omega, hN, fun d H2 d1 s2 w2 => ?_⟩
    have d2 : d < z.cps.size := by
      have e : z.cps.size = z.length := rfl
      omega
    exact ⟨z, d, z.cps[d], rfl, rfl, by omega, by omega, d1, Array.getElem?_eq_getElem d2, q _ _ rfl s2 w2⟩
abbrev sBnt : Stmt := topS 34
theorem scBnt : FnScope ["_law_well_here", "_law_said", "_law_rows", "_law_way", "_law_at", "_law_other", "_law_parts", "_law_spot", "_law_where", "_law_some", "_law_odd", "_law_sign", "_law_behind"] ["_law_well_here", "_law_said"] (defScope sBnt) := ⟨rfl, rfl, rfl, by decide +kernel, rfl, by decide +kernel, by decide +kernel⟩
/-- a text, bent -/
def spBnt : Sp := fun vs H Q _ => ∃ (a : Addr) (N : Nat) (z : Str), vs = [.ref a, .str z] ∧ WellAt H a N ∧ N ≤ 2 ^ 38 ∧ z.length ≤ 100000 ∧ ∀ (z2 : Str) (H2 : Hp), z2.length ≤ 2 * z.length + 12 → Sab a H H2 → WellAt H2 a (N + 8) → Q (.str z2) H2
theorem ok_Bnt {f : Addr} {fd : FuncData} {k : Nat} (F : Fun K "_law_bent" "_law_bent" sBnt f fd) (T : Bl mg) (LDraw : Lnk P w K mg base "_law_draw" k ["_law_well_here", "_law_below"] spDrw) (LPick : Lnk P w K mg base "_law_pick" k ["_law_well_here", "_law_some"] spPick) (LPiS : Lnk P w K mg base "_law_pick" k ["_law_well_here", "_law_some"] spPiS) : FnOk P w K mg base CX0 (k + 1) f fd ["_law_well_here", "_law_said"] spBnt := by
  refine F.ok scBnt (fun vs H Q E h => ?_) (fun cdv A outer s H vs Q E hr h => ?_)
  · obtain ⟨a, N, z, rfl, _⟩ := h
    rfl
  · obtain ⟨a, N, z, rfl, hw, hN, hz, q⟩ := h
    have hu : (A.deeper (envOfC "_law_bent" (defScope sBnt) s.heap.objs.size f cdv)).units + 64 < cLine := hr.units
    have ksz : 1000000 ≤ sizeLine := by decide
    refine ⟨_, (pss_cons (ps_par (i := 2) (j := 3) (by rfl) scBnt.nd rfl rfl (by decide) rfl rfl (pa_cons (pe_bm PySem.F.plainAttrs_str PySem.F.slot_str_split PySem.F.type_str_split mt_split (pv 1) (pa_cons pe_str pa_nil)) (pa_cons (pe_lnk LDraw hr rfl (pa_cons (pv 0) (pa_cons pe_int pa_nil))) pa_nil)) (by rfl))
      (pss_cons (ps_par (i := 4) (j := 5) (by rfl) scBnt.nd rfl rfl (by decide) rfl rfl (pa_cons (pe_lnk LDraw hr rfl (pa_cons (pv 0) (pa_cons (pe_callB call_len_seq (by rfl) T.len PySem.boot_len (pa_cons (pv 2) pa_nil)) pa_nil))) (pa_cons (pe_lnk LDraw hr rfl (pa_cons (pv 0) (pa_cons (pe_callB call_len_seq (by rfl) T.len PySem.boot_len (pa_cons (pv 2) pa_nil)) pa_nil))) pa_nil)) (by rfl))
      (pss_cons (ps_par (i := 6) (j := 7) (by rfl) scBnt.nd rfl rfl (by decide) rfl rfl (pa_cons (pe_bm PySem.F.plainAttrs_str PySem.F.slot_str_split PySem.F.type_str_split mt_split (pe_ix ix_listH (pv 2) (pv 4) (fun _ _ => rfl)) (pa_cons pe_str pa_nil)) (pa_cons (pe_lnk LDraw hr rfl (pa_cons (pv 0) (pa_cons (pe_op op_add (pe_callB call_len_str (by rfl) T.len PySem.boot_len (pa_cons (pv 1) pa_nil)) pe_int) pa_nil))) pa_nil)) (by rfl))
      (pss_cons (ps_set (i := 8) scBnt.nd rfl (Or.inl rfl) (pe_lnk LDraw hr rfl (pa_cons (pv 0) (pa_cons (pe_callB call_len_seq (by rfl) T.len PySem.boot_len (pa_cons (pv 6) pa_nil)) pa_nil))))
      (pss_cons (ps_set (i := 9) scBnt.nd rfl (Or.inl rfl) (pe_lst (pa_cons pe_str (pa_cons pe_str (pa_cons pe_str (pa_cons pe_str (pa_cons pe_str (pa_cons pe_str (pa_cons pe_str (pa_cons pe_str (pa_cons pe_str (pa_cons pe_str (pa_cons pe_str (pa_cons pe_str (pa_cons pe_str (pa_cons pe_str (pa_cons pe_str pa_nil)))))))))))))))))
      (pss_cons (ps_par (i := 10) (j := 11) (by rfl) scBnt.nd rfl rfl (by decide) rfl rfl (pa_cons (pe_lnk LPick hr rfl (pa_cons (pv 0) (pa_cons (pv 9) pa_nil))) (pa_cons (pe_lnk LPiS hr rfl (pa_cons (pv 0) (pa_cons pe_str pa_nil))) pa_nil)) (by rfl))
      (pss_cons (ps_if (pt_cmpR op_lt (pv 3) pe_int (nomark _)) (pss_one (ps_ret (pe_op op_add_str (pe_op op_add_str (pe_slice sl_str (pv 1) po_none (po_some (pv 7))) (pe_op op_mulB (pv 11) (pe_callTy call_int1 (by rfl) T.int (by decide +kernel) (pa_cons (pe_cmpR op_gt (pv 3) pe_int (nomark _)) pa_nil)))) (pe_slice sl_str (pv 1) (po_some (pe_op op_add (pv 7) (pe_callTy call_int1 (by rfl) T.int (by decide +kernel) (pa_cons (pe_cmpR op_ne (pv 3) pe_int (nomark _)) pa_nil)))) po_none)))) pss_nil)
      (pss_cons (ps_mid (ps_if (pt_cmpR op_lt (pv 3) pe_int (nomark _)) (pss_cons (ps_set (i := 12) scBnt.nd rfl (Or.inl rfl) (pe_slice (show L2.SlR _ (rSlL K) from sl_list) (pv 6) (po_some (pe_op op_add (pv 8) (pe_callTy call_int1 (by rfl) T.int (by decide +kernel) (pa_cons (pe_cmpR op_gt (pv 3) pe_int (nomark _)) pa_nil)))) po_none))
      (pss_one (ps_asg (pe_bm PySem.F.plainAttrs_str PySem.F.slot_str_join PySem.F.type_str_join mt_join pe_str (pa_cons (pe_op op_cat (pe_op op_cat (pe_slice (show L2.SlR _ (rSlL K) from sl_list) (pv 6) po_none (po_some (pv 8))) (pe_op op_rep (pe_lst (pa_cons (pv 10) pa_nil)) (pe_callTy call_int1 (by rfl) T.int (by decide +kernel) (pa_cons (pe_cmpR op_lt (pv 3) pe_int (nomark _)) pa_nil)))) (pv 12)) pa_nil)) (pg_sub (pv 2) (pv 4) set_list)))) (pss_one (ps_mid (ps_if (pt_cmpR op_eq (pv 3) pe_int (nomark _)) (pss_one (ps_set (i := 2) scBnt.nd rfl (Or.inl rfl) (pe_op op_cat (pe_slice (show L2.SlR _ (rSlL K) from sl_list) (pv 2) po_none (po_some (pv 4))) (pe_slice (show L2.SlR _ (rSlL K) from sl_list) (pv 2) (po_some (pe_op op_add (pv 4) pe_int)) po_none)))) (pss_one (ps_mid (ps_if (pt_cmpR op_eq (pv 3) pe_int (nomark _)) (pss_one (ps_set (i := 2) scBnt.nd rfl (Or.inl rfl) (pe_op op_cat (pe_slice (show L2.SlR _ (rSlL K) from sl_list) (pv 2) po_none (po_some (pe_op op_add (pv 4) pe_int))) (pe_slice (show L2.SlR _ (rSlL K) from sl_list) (pv 2) (po_some (pv 4)) po_none)))) (pss_one (ps_mid (ps_if (pt_cmpR op_eq (pv 3) pe_int (nomark _)) (pss_one (ps_asg (pe_tup (pa_cons (pe_ix ix_listH (pv 2) (pv 5) (fun _ _ => rfl)) (pa_cons (pe_ix ix_listH (pv 2) (pv 4) (fun _ _ => rfl)) pa_nil))) (pg_tup rfl (pgs_cons (pg_sub (pv 2) (pv 4) set_list) (pgs_cons (pg_sub (pv 2) (pv 5) set_list) pgs_nil))))) (pss_one (ps_asg (pe_bm PySem.F.plainAttrs_str PySem.F.slot_str_join PySem.F.type_str_join mt_join pe_str (pa_cons (pe_op op_cat (pe_slice (show L2.SlR _ (rSlL K) from sl_list) (pv 6) po_none (po_some pe_int)) (pe_tailR (pv 6))) pa_nil)) (pg_sub (pv 2) (pv 4) set_list))))))))))))))
      (pss_one (ps_ret (pe_bm PySem.F.plainAttrs_str PySem.F.slot_str_join PySem.F.type_str_join mt_join pe_str (pa_cons (pv 2) pa_nil)))))))))))), ?_⟩
    rw [show L2.start ["_law_well_here", "_law_said", "_law_rows", "_law_way", "_law_at", "_law_other", "_law_parts", "_law_spot", "_law_where", "_law_some", "_law_odd", "_law_sign", "_law_behind"] [.ref a, .str z] = [some (.ref a), some (.str z), none, none, none, none, none, none, none, none, none, none, none] from rfl]
    dsimp only [cxOf, Cx.nox, Cx.wish]
    have hr0 := split_ne (x := z) sep_nl
    have hr1 := split_few (x := z) sep_nl
    have hr2 := split_jl (x := z) sep_nl
    have hr3 : 0 < (Txt.split z "\n").length := List.length_pos_iff.mpr hr0
    have hr4 : ∀ p ∈ Txt.split z "\n", p.length ≤ z.length := fun p hp => split_short sep_nl hp
    have hback : Txt.join "\n" (Txt.split z "\n") = z := join_split sep_nl
    with_reducible refine go_seq ?_
    with_reducible refine g_par ?_
    refine ⟨_, rfl, rfl, _, _, rfl, rfl, by decide +kernel, by omega, fun L nL => ⟨_, rfl, a, _, N, rfl, hw.mono (same_upd nL), by decide, by decide, by omega, fun way H1 hway s1 w1 => ⟨_, _, rfl, ?_⟩⟩⟩
    have nLa : L ≠ a := hw.ne nL
    have hL1 := s1 _ _ nLa (upd_same (H := H) (a := L) (o := .lst ((Txt.split z (Str.ofString "\n")).map V.str)))
    have sb1 : Sab a H H1 := (sab_of (same_upd nL)).trans s1
    clear s1
    generalize Txt.split z (Str.ofString "\n") = rows at hr0 hr1 hr2 hr3 hr4 hback hL1
    change Ends.nx _ _ _
    dsimp only [List.set]
    with_reducible refine go_seq ?_
    with_reducible refine g_par ?_
    have lr : (rows.map V.str).length = rows.length := List.length_map _
    refine ⟨_, rfl, _, rfl, L, _, rfl, .inl (SqL.of hL1), a, _, _, rfl, w1, by omega, by omega, by omega, fun at_ H2 hat s2 w2 => ⟨_, rfl, _, rfl, L, _, rfl, .inl (SqL.of (s2 _ _ nLa hL1)), a, _, _, rfl, w2, by omega, by omega, by omega, fun ot H3 hot s3 w3 => ⟨_, _, rfl, ?_⟩⟩⟩
    rw [lr] at hat hot
    have hL3 := s3 _ _ nLa (s2 _ _ nLa hL1)
    have sb3 : Sab a H H3 := sb1.trans (s2.trans s3)
    have hat2 : at_ < rows.length := by omega
    have hot2 : ot < rows.length := by omega
    change Ends.nx _ _ _
    dsimp only [List.set]
    clear s2 s3 w1 w2 hL1 sb1
    have erow : (rows.map V.str)[at_]? = some (V.str rows[at_]) := by
      rw [List.getElem?_map, List.getElem?_eq_getElem hat2]
      rfl
    have hrl := hr4 _ (List.getElem_mem hat2)
    have hp0 := split_ne (x := rows[at_]) sep_sp
    have hp1 := split_few (x := rows[at_]) sep_sp
    have hp2 := split_jl (x := rows[at_]) sep_sp
    have hp3 : 0 < (Txt.split rows[at_] " ").length := List.length_pos_iff.mpr hp0
    with_reducible refine go_seq ?_
    with_reducible refine g_par ?_
    refine ⟨_, rfl, _, rfl, L, _, _, _, rfl, rfl, hL3, atI_nat erow, rfl, _, _, rfl, rfl, by decide +kernel, by omega, fun Pp nP => ⟨_, rfl, _, rfl, z, rfl, by omega, _, _, rfl, rfl, a, _, _, rfl, w3.mono (same_upd nP), by omega, by omega, by omega, fun spot H4 hspot s4 w4 => ⟨_, _, rfl, ?_⟩⟩⟩
    have nPa : Pp ≠ a := w3.ne nP
    have nPL : Pp ≠ L := ne_of_none hL3 nP |>.symm
    have hP4 := s4 _ _ nPa (upd_same (H := H3) (a := Pp) (o := .lst ((Txt.split rows[at_] (Str.ofString " ")).map V.str)))
    have hL4 := s4 _ _ nLa (same_upd nP _ _ hL3)
    have sb4 : Sab a H H4 := sb3.trans ((sab_of (same_upd nP)).trans s4)
    clear s4 w3 hL3 sb3 erow
    generalize hps : Txt.split rows[at_] (Str.ofString " ") = ps at hp0 hp1 hp2 hp3 hP4
    change Ends.nx _ _ _
    dsimp only [List.set]
    with_reducible refine go_seq ?_
    with_reducible refine go_asg ?_
    have lp : (ps.map V.str).length = ps.length := List.length_map _
    refine ⟨_, rfl, _, rfl, Pp, _, rfl, .inl (SqL.of hP4), a, _, _, rfl, w4, by omega, by omega, by omega, fun wh H5 hwh s5 w5 => ?_⟩
    rw [lp] at hwh
    have hwh2 : wh < ps.length := by omega
    have hP5 := s5 _ _ nPa hP4
    have hL5 := s5 _ _ nLa hL4
    have sb5 : Sab a H H5 := sb4.trans s5
    change Ends.nx _ _ _
    dsimp only [List.set]
    clear s5 w4 hP4 hL4 sb4
    with_reducible refine go_seq ?_
    with_reducible refine go_asg ?_
    refine ⟨(show 15 ≤ sizeLine by decide), fun S nS => ?_⟩
    have nSa : S ≠ a := w5.ne nS
    have hS : ∃ os : List V, upd H5 S (.lst [V.str "", V.str "a", V.str "archive", V.str "member", V.str "defines", V.str "needs", V.str "-", V.str "(", V.str ")", V.str "(a", V.str "a)", V.str "(a)", V.str "UP", V.str "longname9", V.str "0"]) S = some (.lst os) ∧ os ≠ [] ∧ os.length < 2 ^ 30 ∧ ∀ v ∈ os, ∃ o : Str, v = .str o ∧ o.length ≤ 9 := by
      refine ⟨_, upd_same, by simp, by simp, fun v hv => ?_⟩
      simp only [List.mem_cons, List.not_mem_nil, or_false] at hv
      rcases hv with rfl | rfl | rfl | rfl | rfl | rfl | rfl | rfl | rfl | rfl | rfl | rfl | rfl | rfl | rfl <;> exact ⟨_, rfl, by decide +kernel⟩
    have i6 := same_upd (o := .lst [V.str "", V.str "a", V.str "archive", V.str "member", V.str "defines", V.str "needs", V.str "-", V.str "(", V.str ")", V.str "(a", V.str "a)", V.str "(a)", V.str "UP", V.str "longname9", V.str "0"]) nS
    change Ends.nx _ _ (upd _ _ _)
    dsimp only [List.set]
    generalize upd H5 S _ = H6 at hS i6 ⊢
    obtain ⟨os, hS6, os0, os1, os2⟩ := hS
    have hP6 := i6 _ _ hP5
    have hL6 := i6 _ _ hL5
    have w6 := w5.mono i6
    have sb6 : Sab a H H6 := sb5.trans (sab_of i6)
    clear i6 nS hP5 hL5 w5 sb5
    with_reducible refine go_seq ?_
    with_reducible refine g_par ?_
    refine ⟨_, rfl, _, rfl, a, S, _, os, rfl, w6, by omega, nSa, hS6, os0, os1, fun oi ov H7 hov s7 w7 => ?_⟩
    obtain ⟨odd, rfl, hodd⟩ := os2 _ (List.mem_of_getElem? hov)
    refine ⟨_, rfl, a, _, _, rfl, w7, by omega, by decide +kernel, by decide +kernel, fun sg H8 hsg s8 w8 => ⟨_, _, rfl, ?_⟩⟩
    have hP8 := s8 _ _ nPa (s7 _ _ nPa hP6)
    have hL8 := s8 _ _ nLa (s7 _ _ nLa hL6)
    have sb8 : Sab a H H8 := sb6.trans (s7.trans s8)
    clear s7 s8 w6 w7 hP6 hL6 sb6 hS6 os0 os1 os2 hov
    change Ends.nx _ _ _
    dsimp only [List.set]
    have nL0 : H L = none := nL
    clear nL hps
    have w8 : WellAt H8 a (N + 8) := w8.le (by omega)
    with_reducible refine go_seq ?_
    with_reducible refine g_if ?_
    with_reducible refine g_test ?_
    with_reducible refine g_op ?_
    refine ⟨_, rfl, _, _, rfl, rfl, _, rfl, ?_⟩
    by_cases hw3 : (way : Int) < 3
    · refine if_t (decide_eq_true hw3) ?_
      with_reducible refine g_ret ?_
      dsimp only [tNoPart]
      have c1 := cutS_length z none (some (spot : Int))
      have hb1 : (if decide (0 < (way : Int)) = true then sg else Str.empty).length ≤ 1 := by
        split
        · omega
        · exact Nat.zero_le _
      refine ⟨_, rfl, _, rfl, _, rfl, z, rfl, by omega, _, rfl, _, rfl, _, _, rfl, rfl, .inr ⟨_, rfl, sg, decide (0 < (way : Int)), rfl, rfl, by omega, _, _, rfl, rfl, by omega, _, rfl, _, rfl, _, rfl, rfl, .inr ⟨_, rfl, _, _, rfl, rfl, _, rfl, z, rfl, by omega, ?_⟩⟩⟩
      have c2 := cutS_length z (some ((spot : Int) + (if (!decide (V.int (way : Int) = V.int 1)) = true then 1 else 0))) none
      refine ⟨_, _, rfl, rfl, ?_, q _ _ ?_ sb8 w8⟩
      · rw [str_len_append]
        omega
      · rw [str_len_append, str_len_append]
        omega
    · refine if_f (decide_eq_false hw3) ?_
      with_reducible refine go_next ?_
      with_reducible refine go_seq ?_
      refine ⟨fun σ G => ∃ (L2 : Addr) (r2 : List Str) (v12 : Option V), σ = [some (.ref a), some (.str z), some (.ref L2), some (.int (way : Nat)), some (.int (at_ : Nat)), some (.int (ot : Nat)), some (.ref Pp), some (.int (spot : Nat)), some (.int (wh : Nat)), some (.ref S), some (.str odd), some (.str sg), v12] ∧ G L2 = some (.lst (r2.map V.str)) ∧ jl r2 ≤ 2 * z.length + 12 ∧ Sab a H G ∧ WellAt G a (N + 8), ?_, fun σ2 G hM => ?_⟩
      · have fin : ∀ (G : Hp) (L2 : Addr) (r2 : List Str) (v12 : Option V), G L2 = some (.lst (r2.map V.str)) → jl r2 ≤ 2 * z.length + 12 → Sab a H G → WellAt G a (N + 8) → ∃ (L3 : Addr) (r3 : List Str) (v13 : Option V), [some (V.ref a), some (V.str z), some (V.ref L2), some (V.int (way : Nat)), some (V.int (at_ : Nat)), some (V.int (ot : Nat)), some (V.ref Pp), some (V.int (spot : Nat)), some (V.int (wh : Nat)), some (V.ref S), some (V.str odd), some (V.str sg), v12] = [some (V.ref a), some (V.str z), some (V.ref L3), some (V.int (way : Nat)), some (V.int (at_ : Nat)), some (V.int (ot : Nat)), some (V.ref Pp), some (V.int (spot : Nat)), some (V.int (wh : Nat)), some (V.ref S), some (V.str odd), some (V.str sg), v13] ∧ G L3 = some (.lst (r3.map V.str)) ∧ jl r3 ≤ 2 * z.length + 12 ∧ Sab a H G ∧ WellAt G a (N + 8) := fun G L2 r2 v12 h1 h2 h3 h4 => ⟨L2, r2, v12, rfl, h1, h2, h3, h4⟩
        -- a row is put in its place
        have put : ∀ (G : Hp) (y : Str) (v12 : Option V), Same H8 G → y.length ≤ rows[at_].length + 11 → ∃ (L3 : Addr) (r3 : List Str) (v13 : Option V), [some (V.ref a), some (V.str z), some (V.ref L), some (V.int (way : Nat)), some (V.int (at_ : Nat)), some (V.int (ot : Nat)), some (V.ref Pp), some (V.int (spot : Nat)), some (V.int (wh : Nat)), some (V.ref S), some (V.str odd), some (V.str sg), v12] = [some (V.ref a), some (V.str z), some (V.ref L3), some (V.int (way : Nat)), some (V.int (at_ : Nat)), some (V.int (ot : Nat)), some (V.ref Pp), some (V.int (spot : Nat)), some (V.int (wh : Nat)), some (V.ref S), some (V.str odd), some (V.str sg), v13] ∧ upd G L (.lst ((rows.map V.str).set at_ (V.str y))) L3 = some (.lst (r3.map V.str)) ∧ jl r3 ≤ 2 * z.length + 12 ∧ Sab a H (upd G L (.lst ((rows.map V.str).set at_ (V.str y)))) ∧ WellAt (upd G L (.lst ((rows.map V.str).set at_ (V.str y)))) a (N + 8) := fun G y v12 s9 hy => by
          refine fin _ L (rows.set at_ y) _ (by rw [upd_same, List.map_set]) ?_ (fun b o hb e => ?_) ?_
          · have k := jl_set hat2 y
            have := jl_mem (List.getElem_mem hat2)
            omega
          · rw [upd_ne (fun z => by rw [z, nL0] at e; cases e)]
            exact s9 _ _ (sb8 b o hb e)
          · obtain ⟨o, b, n, h1, h2⟩ := w8.mono s9
            exact ⟨o, b, n, by rw [upd_ne (fun z => nLa z.symm)]; exact h1, h2⟩
        have ixat : ixN (rows.map V.str).length (at_ : Int) = some at_ := by
          unfold ixN
          rw [if_pos (by omega), if_pos (by omega)]
          rfl
        with_reducible refine g_if ?_
        with_reducible refine g_test ?_
        with_reducible refine g_op ?_
        refine ⟨_, rfl, _, _, rfl, rfl, _, rfl, ?_⟩
        by_cases hw6 : (way : Int) < 6
        · refine if_t (decide_eq_true hw6) ?_
          with_reducible refine go_seq ?_
          with_reducible refine go_asg ?_
          dsimp only [tNoPart]
          obtain ⟨kb, hkb, hkl⟩ : ∃ kb : Nat, (wh : Int) + (if decide (3 < (way : Int)) = true then 1 else 0) = ((wh + kb : Nat) : Int) ∧ kb ≤ 1 := by
            split
            · exact ⟨1, by omega, by omega⟩
            · exact ⟨0, by omega, by omega⟩
          refine ⟨_, rfl, _, rfl, _, rfl, _, _, rfl, rfl, .inr ⟨_, rfl, _, _, rfl, rfl, _, rfl, Pp, _, rfl, SqL.of hP8, fun Bh nBh => ?_⟩⟩
          rw [hkb, cutFrom _ _ (by omega), ← List.map_drop]
          have i9 := same_upd (o := .lst ((ps.drop (wh + kb)).map V.str)) nBh
          have hB := upd_same (H := H8) (a := Bh) (o := .lst ((ps.drop (wh + kb)).map V.str))
          show tAsg _ _ _ _ (upd _ _ _)
          dsimp only [List.set]
          generalize upd H8 Bh _ = H9 at i9 hB ⊢
          refine ⟨rfl, ?_⟩
          refine ⟨_, rfl, _, rfl, _, rfl, Pp, _, rfl, SqL.of (i9 _ _ hP8), fun c1 nc1 => ⟨_, rfl, (show 1 ≤ sizeLine by decide), fun l1 nl1 => ?_⟩⟩
          rw [cutTo _ _ (by omega), ← List.map_take] at nl1 ⊢
          have i10 := same_upd (o := .lst ((ps.take wh).map V.str)) nc1
          have hC := upd_same (H := H9) (a := c1) (o := .lst ((ps.take wh).map V.str))
          generalize upd H9 c1 _ = H10 at i10 hC nl1 ⊢
          have i11 := same_upd (o := .lst [V.str odd]) nl1
          have hO := upd_same (H := H10) (a := l1) (o := .lst [V.str odd])
          generalize upd H10 l1 _ = H11 at i11 hO ⊢
          obtain ⟨ob, hob, hobl, hobj⟩ : ∃ ob : List Str, (List.replicate (Int.toNat (if decide ((way : Int) < 5) = true then 1 else 0)) [V.str odd]).flatten = ob.map V.str ∧ ob.length ≤ 1 ∧ jl ob ≤ 10 := by
            split
            · exact ⟨[odd], rfl, by simp, by show odd.length + 1 + 0 ≤ 10; omega⟩
            · exact ⟨[], rfl, by simp, Nat.zero_le _⟩
          refine ⟨_, rfl, _, _, rfl, rfl, .inr ⟨_, rfl, l1, _, _, rfl, rfl, hO, by split <;> omega, by split <;> omega, by split <;> simp <;> omega, fun p2 np2 => ?_⟩⟩
          rw [hob]
          have i12 := same_upd (o := .lst (ob.map V.str)) np2
          have hp2' := upd_same (H := H11) (a := p2) (o := .lst (ob.map V.str))
          generalize upd H11 p2 _ = H12 at i12 hp2' ⊢
          refine ⟨_, _, _, _, rfl, rfl, i12 _ _ (i11 _ _ hC), hp2', by rw [List.length_map, List.length_map, List.length_take]; omega, fun p3 np3 => ?_⟩
          have i13 := same_upd (o := .lst ((ps.take wh).map V.str ++ ob.map V.str)) np3
          have hp3' := upd_same (H := H12) (a := p3) (o := .lst ((ps.take wh).map V.str ++ ob.map V.str))
          generalize upd H12 p3 _ = H13 at i13 hp3' ⊢
          have s13 : Same H9 H13 := same_tr i10 (same_tr i11 (same_tr i12 i13))
          refine ⟨_, rfl, _, _, _, _, rfl, rfl, hp3', s13 _ _ hB, by rw [List.length_append, List.length_map, List.length_map, List.length_map, List.length_take, List.length_drop]; omega, fun p4 np4 => ?_⟩
          rw [← List.map_append, ← List.map_append]
          have e5 : jl (ps.take wh ++ ob ++ ps.drop (wh + kb)) ≤ rows[at_].length + 11 := by
            have k1 := jl_cut ps wh
            have k2 := jl_drop_le ps (show wh ≤ wh + kb by omega)
            rw [jl_append, jl_append]
            omega
          refine ⟨_, p4, ps.take wh ++ ob ++ ps.drop (wh + kb), rfl, rfl, .inl (SqL.of upd_same), by rw [join_room sep_sp]; omega, ?_⟩
          have s14 : Same H8 (upd H13 p4 (.lst ((ps.take wh ++ ob ++ ps.drop (wh + kb)).map V.str))) := same_tr i9 (same_tr s13 (same_upd np4))
          exact ⟨_, rfl, _, rfl, L, _, _, at_, rfl, rfl, s14 _ _ hL8, ixat, put _ _ _ s14 (Nat.le_trans (joinT_le sep_sp _) e5)⟩
        · refine if_f (decide_eq_false hw6) ?_
          with_reducible refine go_mid ?_
          with_reducible refine g_if ?_
          with_reducible refine g_test ?_
          with_reducible refine g_op ?_
          refine ⟨_, rfl, rfl, _, rfl, ?_⟩
          have sabS : ∀ {G : Hp}, Same H8 G → Sab a H G := fun s => sb8.trans (sab_of s)
          have e1 : ∀ i : Nat, i ≤ rows.length → cutV (rows.map V.str) none (some (i : Int)) = (rows.take i).map V.str := fun i hi => by rw [cutTo _ _ (by omega), List.map_take]
          have e2 : ∀ i : Nat, i ≤ rows.length → cutV (rows.map V.str) (some (i : Int)) none = (rows.drop i).map V.str := fun i hi => by rw [cutFrom _ _ (by omega), List.map_drop]
          have e3 : ((at_ : Int) + 1) = ((at_ + 1 : Nat) : Int) := by omega
          have two : ∀ i j : Nat, jl (rows.take i ++ rows.drop j) ≤ 2 * z.length + 12 := fun i j => by
            have k1 := jl_cut rows i
            have k2 := jl_cut rows j
            rw [jl_append]
            omega
          have twl : ∀ i j : Nat, i ≤ rows.length → ((rows.take i).map V.str).length + ((rows.drop j).map V.str).length ≤ sizeLine := fun i j hi => by
            rw [List.length_map, List.length_map, List.length_take, List.length_drop]
            omega
          by_cases e6 : (way : Int) = 6
          · refine if_t (decide_eq_true (congrArg V.int e6)) ?_
            with_reducible refine go_asg ?_
            dsimp only [tNoPart]
            refine ⟨_, rfl, _, rfl, _, rfl, L, _, rfl, SqL.of hL8, fun c1 nc1 => ⟨_, rfl, _, rfl, _, _, rfl, rfl, _, rfl, L, _, rfl, SqL.of (same_upd nc1 _ _ hL8), fun c2 nc2 => ?_⟩⟩
            rw [e1 at_ (by omega)] at nc2 ⊢
            rw [e3, e2 (at_ + 1) (by omega)]
            refine ⟨_, _, _, _, rfl, rfl, same_upd nc2 _ _ upd_same, upd_same, twl _ _ (by omega), fun p3 np3 => ?_⟩
            rw [← List.map_append]
            have s3 := same_tr (same_upd nc1) (same_tr (same_upd nc2) (same_upd (o := .lst ((rows.take at_ ++ rows.drop (at_ + 1)).map V.str)) np3))
            exact fin _ p3 _ _ upd_same (two _ _) (sabS s3) (w8.mono s3)
          · refine if_f (decide_eq_false fun z => e6 (V.int.inj z)) ?_
            with_reducible refine go_mid ?_
            with_reducible refine g_if ?_
            with_reducible refine g_test ?_
            with_reducible refine g_op ?_
            refine ⟨_, rfl, rfl, _, rfl, ?_⟩
            by_cases e7 : (way : Int) = 7
            · refine if_t (decide_eq_true (congrArg V.int e7)) ?_
              with_reducible refine go_asg ?_
              dsimp only [tNoPart]
              refine ⟨_, rfl, _, rfl, _, _, rfl, rfl, _, rfl, L, _, rfl, SqL.of hL8, fun c1 nc1 => ⟨_, rfl, _, rfl, _, rfl, L, _, rfl, SqL.of (same_upd nc1 _ _ hL8), fun c2 nc2 => ?_⟩⟩
              rw [e3, e1 (at_ + 1) (by omega)] at nc2 ⊢
              rw [e2 at_ (by omega)]
              refine ⟨_, _, _, _, rfl, rfl, same_upd nc2 _ _ upd_same, upd_same, twl _ _ (by omega), fun p3 np3 => ?_⟩
              rw [← List.map_append]
              have s3 := same_tr (same_upd nc1) (same_tr (same_upd nc2) (same_upd (o := .lst ((rows.take (at_ + 1) ++ rows.drop at_).map V.str)) np3))
              exact fin _ p3 _ _ upd_same (two _ _) (sabS s3) (w8.mono s3)
            · refine if_f (decide_eq_false fun z => e7 (V.int.inj z)) ?_
              with_reducible refine go_mid ?_
              with_reducible refine g_if ?_
              with_reducible refine g_test ?_
              with_reducible refine g_op ?_
              refine ⟨_, rfl, rfl, _, rfl, ?_⟩
              by_cases e8 : (way : Int) = 8
              · refine if_t (decide_eq_true (congrArg V.int e8)) ?_
                have ea : (rows.map V.str)[at_]? = some (V.str rows[at_]) := by
                  rw [List.getElem?_map, List.getElem?_eq_getElem hat2]
                  rfl
                have eo : (rows.map V.str)[ot]? = some (V.str rows[ot]) := by
                  rw [List.getElem?_map, List.getElem?_eq_getElem hot2]
                  rfl
                have ixot : ixN ((rows.map V.str).set at_ (V.str rows[ot])).length (ot : Int) = some ot := by
                  unfold ixN
                  rw [List.length_set, if_pos (by omega), if_pos (by omega)]
                  rfl
                refine ⟨_, rfl, _, rfl, L, _, _, _, rfl, rfl, hL8, atI_nat eo, _, rfl, _, rfl, L, _, _, _, rfl, rfl, hL8, atI_nat ea, (show 2 ≤ sizeLine by decide), fun tp ntp => ⟨tp, _, rfl, SqT.of upd_same, rfl, _, _, rfl, _, rfl, _, rfl, L, _, _, at_, rfl, rfl, same_upd ntp _ _ hL8, ixat, _, _, rfl, _, rfl, _, rfl, L, _, _, ot, rfl, rfl, upd_same, ixot, rfl, ?_⟩⟩
                have iT := same_upd (o := .tup [V.str rows[ot], V.str rows[at_]]) ntp
                refine fin _ L ((rows.set at_ rows[ot]).set ot rows[at_]) _ (by rw [upd_same, List.map_set, List.map_set]) ?_ (fun b o hb e => ?_) ?_
                · have k1 := jl_set hat2 rows[ot]
                  have k2 := jl_set (ps := rows.set at_ rows[ot]) (i := ot) (by rw [List.length_set]; exact hot2) rows[at_]
                  have k3 := hr4 _ (List.getElem_mem hot2)
                  omega
                · have nb : b ≠ L := fun z => by
                    rw [z, nL0] at e
                    cases e
                  rw [upd_ne nb, upd_ne nb]
                  exact iT _ _ (sb8 b o hb e)
                · obtain ⟨o, b, n, h1, h2⟩ := w8.mono iT
                  exact ⟨o, b, n, by rw [upd_ne (fun z => nLa z.symm), upd_ne (fun z => nLa z.symm)]; exact h1, h2⟩
              · refine if_f (decide_eq_false fun z => e8 (V.int.inj z)) ?_
                obtain ⟨p0, pr, rfl⟩ : ∃ p0 pr, ps = p0 :: pr := by
                  cases ps with
                  | nil => exact absurd rfl hp0
                  | cons p0 pr => exact ⟨p0, pr, rfl⟩
                dsimp only [tNoPart]
                refine ⟨rfl, _, rfl, _, rfl, Pp, _, rfl, SqL.of hP8, fun c1 nc1 => ⟨_, rfl, Pp, V.str p0, pr.map V.str, rfl, SqL.of (same_upd nc1 _ _ hP8), fun c2 nc2 => ?_⟩⟩
                have e9 : cutV ((p0 :: pr).map V.str) none (some (1 : Int)) = [p0].map V.str := (cutTo ((p0 :: pr).map V.str) 1 (by rw [List.length_map, List.length_cons]; omega)).trans rfl
                rw [e9] at nc2 ⊢
                rw [← List.map_reverse]
                rw [List.length_cons] at hp1
                refine ⟨_, _, _, _, rfl, rfl, same_upd nc2 _ _ upd_same, upd_same, by rw [List.length_map, List.length_map, List.length_reverse, List.length_singleton]; omega, fun p3 np3 => ?_⟩
                rw [← List.map_append]
                have s3 := same_tr (same_upd nc1) (same_tr (same_upd nc2) (same_upd (o := .lst (([p0] ++ pr.reverse).map V.str)) np3))
                have k : jl ([p0] ++ pr.reverse) = rows[at_].length + 1 := by
                  rw [jl_append, jl_rev, ← hp2, jl_cons]
                  rfl
                exact ⟨_, p3, [p0] ++ pr.reverse, rfl, rfl, .inl (SqL.of upd_same), by rw [join_room sep_sp]; omega, _, rfl, _, rfl, L, _, _, at_, rfl, rfl, s3 _ _ hL8, ixat, put _ _ _ s3 (Nat.le_trans (joinT_le sep_sp _) (by omega))⟩
      · obtain ⟨L2, r2, v12, rfl, h1, h2, h3, h4⟩ := hM
        with_reducible refine g_ret ?_
        refine ⟨rfl, _, rfl, _, L2, r2, rfl, rfl, .inl (SqL.of h1), by rw [join_room sep_nl]; omega, q _ _ (Nat.le_trans (joinT_le sep_nl _) h2) h3 h4⟩
end

end LK
namespace LK
open PySem PySem.Spec PyProof.Rows L2

theorem jl_le {b : Nat} : ∀ {ps : List Str}, (∀ p ∈ ps, p.length ≤ b) → jl ps ≤ (b + 1) * ps.length
  | [], _ => Nat.le_refl _
  | p :: ps, h => by
    have k := jl_le (ps := ps) fun x hx => h x (List.mem_cons_of_mem _ hx)
    have k2 := h p List.mem_cons_self
    rw [jl_cons, List.length_cons, Nat.mul_succ]
    omega
theorem joinL_all {S : List Nat} {p : Nat → Prop} (hS : ∀ c ∈ S, p c) : ∀ {L : List (List Nat)}, (∀ l ∈ L, ∀ c ∈ l, p c) → ∀ c ∈ TL.joinL S L, p c
  | [], _ => fun c h => by cases h
  | [l], h => h l List.mem_cons_self
  | l :: m :: r, h => fun c hc => by
    have hc : c ∈ l ++ (S ++ TL.joinL S (m :: r)) := hc
    rcases List.mem_append.mp hc with k | k
    · exact h l List.mem_cons_self c k
    rcases List.mem_append.mp k with k | k
    · exact hS c k
    · exact joinL_all hS (fun x hx => h x (List.mem_cons_of_mem _ hx)) c k
theorem name_small {z : Str} (h : isNameS z = true) : ∀ c ∈ TL.tl z, c < 1000 := fun c hc => by
  have k : ∀ c ∈ nameZ.cps.toList, c < 1000 := by decide +kernel
  exact k c ((name_signs h).2 c hc)
theorem row_small {w : Str} {ns : List Str} (hw : w = dfnS ∨ w = ndsS) (h : ns.all isNameS = true) : ∀ c ∈ TL.tl (rowT w ns), c < 1000 := by
  unfold rowT
  rw [TL.join_eq, TL.tl_join]
  refine joinL_all (by decide +kernel) fun l hl => ?_
  obtain ⟨z, hz, rfl⟩ := List.mem_map.mp hl
  rcases List.mem_cons.mp hz with rfl | hz
  · rcases hw with rfl | rfl <;> decide +kernel
  · unfold orDash at hz
    split at hz
    · rw [List.mem_singleton.mp hz]
      decide +kernel
    · exact name_small (List.all_eq_true.mp h z hz)
theorem prog_small {a b : List Str} (ha : a.all isNameS = true) (hb : b.all isNameS = true) : ∀ c ∈ TL.tl (progT a b), c < 1000 := by
  unfold progT
  rw [TL.join_eq, TL.tl_join]
  refine joinL_all (by decide +kernel) fun l hl => ?_
  obtain ⟨z, hz, rfl⟩ := List.mem_map.mp hl
  rcases List.mem_cons.mp hz with rfl | hz
  · exact row_small (.inl rfl) ha
  · rw [List.mem_singleton.mp hz]
    exact row_small (.inr rfl) hb
theorem prog_len {a b : List Str} (ha : jl a ≤ 100) (hb : jl b ≤ 100) : (progT a b).length ≤ 240 := by
  have k1 := rowT_jl (w := dfnS) (.inl rfl) a
  have k2 := rowT_jl (w := ndsS) (.inr rfl) b
  have l1 := joinT_le sep_sp (dfnS :: orDash a)
  have l2 := joinT_le sep_sp (ndsS :: orDash b)
  have l3 := joinT_le sep_nl [rowT dfnS a, rowT ndsS b]
  have e : jl [rowT dfnS a, rowT ndsS b] = (rowT dfnS a).length + 1 + ((rowT ndsS b).length + 1 + 0) := rfl
  have e1 : (rowT dfnS a).length ≤ 112 := by
    show (Txt.join " " (dfnS :: orDash a)).length ≤ 112
    omega
  have e2 : (rowT ndsS b).length ≤ 112 := by
    show (Txt.join " " (ndsS :: orDash b)).length ≤ 112
    omega
  show (Txt.join "\n" [rowT dfnS a, rowT ndsS b]).length ≤ 240
  omega
theorem shn_text {z : Str} {n : Nat} (h : ∀ c ∈ TL.tl z, c < 1000) (hl : z.length ≤ n) : Shn (.str z) (10 * n + 2) 0 := by
  have k := StrLaws.reprText_len z fun c hc => Nat.lt_trans (h c hc) (by decide)
  refine ⟨?_, rfl, Nat.le_refl _, rfl⟩
  show (reprText z).length ≤ _
  omega
theorem lst_len : ∀ ts : List Str, (listText ts).length ≤ piled ts + 2
  | [] => by show (("[" : Str) ++ "]").length ≤ _; decide +kernel
  | t :: r => by
    have e : (listText (t :: r)).length = (textFrom 1 (("[" : Str) ++ ((if (0 : Nat) > 0 then ", " else "" : String) : Str) ++ t) r).length + 1 := by
      show (textFrom 0 "[" (t :: r) ++ "]").length = _
      rw [app_len]
      rfl
    rw [e, textFrom_length_pos _ 1 _ Nat.one_pos, app_len, app_len, piled_cons]
    have e1 : (("[" : String) : Str).length = 1 := rfl
    have e2 : (((if (0 : Nat) > 0 then ", " else "" : String)) : Str).length = 0 := by decide +kernel
    rw [e1, e2]
    omega
theorem shn_row {n : Nat} (h : n ≤ 1000000) : Shn (.list [.int (n : Nat)]) 100 1 := by
  have h2 : ((n : Nat) : Int).natAbs.log2 < 84 := by
    by_cases hz : ((n : Nat) : Int).natAbs = 0
    · rw [hz]; decide
    · exact (Nat.log2_lt hz).mpr (by
        have : ((n : Nat) : Int).natAbs = n := by omega
        rw [this]
        exact Nat.lt_of_le_of_lt h (by decide))
  have h3 : (PySem.Str.ofString (toString ((n : Nat) : Int))).length ≤ 85 := by
    rw [PySem.ofString_length]
    exact PySem.int_text_length_le (k := 84) (by decide) h2
  refine ⟨?_, ?_, Nat.le_refl _, rfl⟩
  · have k := lst_len (PyData.shownAll [.int (n : Nat)])
    have k2 : piled (PyData.shownAll [.int (n : Nat)]) = piled [(PyData.int (n : Nat)).shown] := rfl
    rw [k2, piled_cons] at k
    have k3 : (PyData.int (n : Nat)).shown.length ≤ 85 := h3
    have k4 : piled [] = 0 := rfl
    show (listText (PyData.shownAll [.int (n : Nat)])).length ≤ 100
    omega
  · have e : (PyData.int (n : Nat)).showable = true := decide_eq_true (Nat.lt_trans h2 (by decide))
    show ((PyData.int (n : Nat)).showable && true) = true
    rw [e]
    rfl
theorem shn_prog {a b : List Str} (ha : a.all isNameS = true) (hb : b.all isNameS = true) (la : a.length ≤ 200) (lb : b.length ≤ 200) : Shn (.tuple [strsD a, strsD b]) 900000 2 :=
  (shn_tup (b := 84 * 200 + 3) (c := 1) fun d hd => by
    rcases List.mem_cons.mp hd with rfl | hd
    · exact shn_strs ha la
    · rw [List.mem_singleton.mp hd]
      exact shn_strs hb lb).le (show (84 * 200 + 3 + 2) * 2 + 3 ≤ 900000 by decide) (Nat.le_refl _)
theorem progL_ok {os : List (Option (Str × List Str))} {a b : List Str} (h : progL os = some (a, b)) : ∃ w1 w2, os = [some (w1, a), some (w2, b)] ∧ okLot a = true ∧ okLot b = true := by
  match os, h with
  | [some (w1, x), some (w2, y)], h =>
    have h : (if w1 = dfnS ∧ w2 = ndsS ∧ okLot x = true ∧ okLot y = true then some (x, y) else none) = some (a, b) := h
    by_cases hc : w1 = dfnS ∧ w2 = ndsS ∧ okLot x = true ∧ okLot y = true
    · rw [if_pos hc] at h
      cases h
      exact ⟨w1, w2, rfl, hc.2.2.1, hc.2.2.2⟩
    · rw [if_neg hc] at h
      cases h
theorem told_shn {z : Str} (hz : z.length ≤ 4000) : Shn (toldP z) 900000 2 := by
  unfold toldP
  cases h : parsedP z with
  | ok p =>
    obtain ⟨a, b⟩ := p
    unfold parsedP at h
    split at h
    · rename_i hall
      split at h
      · rename_i p hp
        cases h
        obtain ⟨w1, w2, e, ka, kb⟩ := progL_ok hp
        have row : ∀ w ns, some (w, ns) ∈ (Txt.split z "\n").map rowP → ns.all isNameS = true := fun w ns hm => by
          obtain ⟨r, _, er⟩ := List.mem_map.mp hm
          exact (row_some er).2.1
        exact shn_prog (row w1 a (by rw [e]; simp)) (row w2 b (by rw [e]; simp)) (of_decide_eq_true (Bool.and_eq_true_iff.mp ka).2) (of_decide_eq_true (Bool.and_eq_true_iff.mp kb).2)
      · cases h
    · cases h
  | error n =>
    have hn : n ≤ z.length + 1 := by
      have few := split_few (x := z) sep_nl
      unfold parsedP at h
      split at h
      · split at h
        · cases h
        · cases h
          exact few
      · cases h
        exact Nat.le_trans List.findIdx_le_length few
    exact (shn_row (by omega)).le (by omega) (by omega)
/-- texts of at most b signs -/
def TxB (b : Nat) (os : List V) : Prop := ∀ v ∈ os, ∃ z : Str, v = .str z ∧ z.length ≤ b
theorem TxB.strs {b : Nat} : ∀ {os : List V}, TxB b os → ∃ zs : List Str, os = zs.map V.str ∧ ∀ z ∈ zs, z.length ≤ b
  | [], _ => ⟨[], rfl, fun z h => (nomatch h)⟩
  | v :: os, h => by
    obtain ⟨zs, e, k⟩ := TxB.strs (os := os) fun x hx => h x (List.mem_cons_of_mem _ hx)
    obtain ⟨z, ez, hz⟩ := h v List.mem_cons_self
    refine ⟨z :: zs, by rw [ez, e]; rfl, fun y hy => ?_⟩
    rcases List.mem_cons.mp hy with rfl | hy
    · exact hz
    · exact k y hy
theorem TxB.app {b : Nat} {xs ys : List V} (h : TxB b xs) (k : TxB b ys) : TxB b (xs ++ ys) := fun v hv => (List.mem_append.mp hv).elim (h v) (k v)
/-- texts of some length -/
def TxL (os : List V) : Prop := ∀ v ∈ os, ∃ z : Str, v = .str z ∧ z.length ≤ 4000
theorem txl_nil : TxL [] := fun v h => (nomatch h)
theorem txl_cons {z : Str} {os : List V} (h : z.length ≤ 4000) (k : TxL os) : TxL (V.str z :: os) := fun v hv => by
  rcases List.mem_cons.mp hv with rfl | hv
  · exact ⟨z, rfl, h⟩
  · exact k v hv
theorem TxL.app {xs ys : List V} (h : TxL xs) (k : TxL ys) : TxL (xs ++ ys) := fun v hv => (List.mem_append.mp hv).elim (h v) (k v)
theorem join_go {K : PySem.W.Frag} {σ : L2.St} {H : Hp} {Q : VK} {z : Str} {n : Nat} (hz : z.length ≤ 10) (hn : n ≤ 300) (k : ∀ (G : Hp) (t : Str), Same H G → t.length ≤ 4000 → Q (.str t) G) :
    tBM K "str" (rJoinK K) (tC (.str " ")) (tCons (tOp rRep (tLst (tCons (tC (.str z)) tNil)) (tC (.int (n : Nat)))) tNil) σ H Q := by
  have ksz : 1000000 ≤ sizeLine := by decide
  have e : (List.replicate (Int.toNat (n : Nat)) [V.str z]).flatten = (List.replicate n z).map V.str := by
    rw [Int.toNat_natCast, List.map_replicate]
    induction n with
    | zero => rfl
    | succ n ih =>
      rw [List.replicate_succ, List.flatten_cons, ih (by omega)]
      rfl
  have hj : jl (List.replicate n z) ≤ 11 * n := by
    have k := jl_le (b := 10) (ps := List.replicate n z) fun p hp => by
      rw [(List.mem_replicate.mp hp).2]
      exact hz
    rw [List.length_replicate] at k
    exact k
  refine ⟨rfl, (show 1 ≤ sizeLine by decide), fun l nl => ⟨l, _, _, rfl, rfl, upd_same, by omega, by omega, by rw [List.length_singleton, Int.toNat_natCast]; omega, fun p np => ⟨_, p, List.replicate n z, rfl, rfl, .inl (SqL.of ?_), by rw [join_room sep_sp]; omega, k _ _ (same_tr (same_upd nl) (same_upd np)) ?_⟩⟩⟩
  · rw [upd_same, e]
  · have := joinT_le sep_sp (List.replicate n z)
    omega
/-- texts written out -/
def TxA (ta : TA) (n : Nat) : Prop := ∀ (σ : L2.St) (H : Hp) (Q : List V → Hp → Prop), (∀ os G, Same H G → TxL os → os.length = n → Q os G) → ta σ H Q
theorem txa_nil : TxA tNil 0 := fun σ H Q k => k [] H (Same.refl _) txl_nil rfl
theorem txa_cons {z : Str} {ta : TA} {n : Nat} (h : z.length ≤ 4000) (t : TxA ta n) : TxA (tCons (tC (.str z)) ta) (n + 1) := fun σ H Q k => t σ H _ fun os G s h1 h2 => k _ G s (txl_cons h h1) (by rw [List.length_cons, h2])
theorem txa_join {K : PySem.W.Frag} {z : Str} {m : Nat} {ta : TA} {n : Nat} (hz : z.length ≤ 10) (hm : m ≤ 300) (t : TxA ta n) : TxA (tCons (tBM K "str" (rJoinK K) (tC (.str " ")) (tCons (tOp rRep (tLst (tCons (tC (.str z)) tNil)) (tC (.int (m : Nat)))) tNil)) ta) (n + 1) := fun σ H Q k =>
  join_go hz hm fun G y s hy => t σ G _ fun os G2 s2 h1 h2 => k _ G2 (same_tr s s2) (txl_cons hy h1) (by rw [List.length_cons, h2])
theorem txt_lst {ta : TA} {n : Nat} {σ : L2.St} {H : Hp} {Q : VK} (h : TxA ta n) (hn : n ≤ 100) (k : ∀ l os G, Same H G → H l = none → G l = some (.lst os) → TxL os → os.length ≤ 100 → Q (.ref l) G) : tLst ta σ H Q := by
  have ksz : 1000000 ≤ sizeLine := by decide
  exact h σ H _ fun os G s h1 h2 => ⟨by omega, fun p np => k p os _ (same_tr s (same_upd np)) (none_of_same s np) upd_same h1 (by omega)⟩
theorem txt_cat {ta : TA} {n : Nat} {σ : L2.St} {H : Hp} {Q : VK} {S : Addr} {os : List V} (h : TxA ta n) (hn : n ≤ 100) {i : Nat} (h1 : σ[i]? = some (some (.ref S))) (h2 : H S = some (.lst os)) (h3 : TxL os) (h4 : os.length ≤ 500) (k : ∀ l os2 G, Same H G → H l = none → G l = some (.lst os2) → TxL os2 → os2.length ≤ os.length + 100 → Q (.ref l) G) : tOp rCat (tVar i) (tLst ta) σ H Q := by
  have ksz : 1000000 ≤ sizeLine := by decide
  refine ⟨_, h1, txt_lst h hn fun l os2 G s nl hl x1 x2 => ⟨_, _, _, _, rfl, rfl, s _ _ h2, hl, by omega, fun p np => ?_⟩⟩
  exact k p (os ++ os2) _ (same_tr s (same_upd np)) (none_of_same s np) upd_same (h3.app x1) (by rw [List.length_append]; omega)
abbrev sLaw : Stmt := topS 38
theorem scLaw : FnScope ["_law_script", "_law_many", "_law_one", "_law_two", "_law_three", "_law_some", "_law_k", "_law_well_here", "_law_program_here", "_law_said", "_law_turn", "_law_bent_here", "_law_told"] ["_law_script"] (defScope sLaw) := ⟨rfl, rfl, rfl, by decide +kernel, rfl, by decide +kernel, by decide +kernel⟩
open LamX (ExtN Tabs TabS CodeO)
section
variable {P : Program} {w : World} {K : PySem.W.Frag} {mg : Str → Option Value} {base : Heap}
def spLawT (K : PySem.W.Frag) (Pt : Addr) : Sp := fun vs H Q _ => ∃ (a : Addr) (ns : List Int), vs = [.ref a] ∧ H Pt = some (.tbl #[]) ∧ SqL K H a (ns.map V.int) ∧ ns.length ≤ 63 ∧ ∀ H2, Q (.bl true) H2
theorem ok_Law {fa g CE CL CP cL Pt : Addr} {fd fdg : FuncData} {k : Nat} (F : Fun K "law" "law" sLaw fa fd) (T : Bl mg)
    (hcd : ∀ (kV doc pm : Value) (an : Option Addr) (cdv ct : Value), fd = PySem.W.fnOf "law" "law" (defArgs sLaw) (defBody sLaw) (defScope sLaw) .none kV doc pm an cdv ct → cdv = .ref cL)
    (TB : LamX.TabB base mg cL Pt) (FPsd : Fun K "_law_parsed" "_law_parsed" sPsd g fdg) (mPsd : mg "_law_parsed" = some (.ref g)) (bPsd : Binds K fdg ["_law_call"] []) (EK : ErrK K CE CL CP) (mLE : mg "LinkError" = some (.ref CE)) (mPE : mg "ParseError" = some (.ref CP)) (mIL : mg "InvalidLine" = some (.ref CL)) (mVE : mg "ValueError" = none)
    (LWell : Lnk P w K mg base "_law_well" k ["_law_script", "_law_k"] (spWell K)) (LDraw : Lnk P w K mg base "_law_draw" k ["_law_well_here", "_law_below"] spDrw) (LArc : Lnk P w K mg base "_law_archives" k ["_law_well_here", "_law_most", "_law_rooms"] spArc) (LPrg : Lnk P w K mg base "_law_program" k ["_law_well_here", "_law_archives_here"] spPrg) (LPtx : Lnk P w K mg base "_law_program_text" k ["_law_program_here"] spFmp) (LFmp : Lnk P w K mg base "format_program" k ["program"] spFmp) (LBnt : Lnk P w K mg base "_law_bent" k ["_law_well_here", "_law_said"] spBnt) (LLdu : Lnk P w K mg base "_law_due" k ["_law_said"] spLdu)
    (LPrp : LnkX P w K mg base "parse_program" k ["text"] (spPrp CP)) : FnG P w K mg base CX0 (k + 3) fa fd ["_law_script"] (spLawT K Pt) := by
  refine FnG.ofC F scLaw (fun vs H Q E h => ?_) hcd (fun A hG0 outer s H vs Q E hrC0 h => ?_)
  · obtain ⟨a, ns, rfl, _⟩ := h
    rfl
  · obtain ⟨sc, ns, rfl, hPt, hSc, hlen, q⟩ := h
    have hr2 : Room (k + 2) (A.deeper (envOfC "law" (defScope sLaw) s.heap.objs.size fa (.ref cL))) := hrC0
    have hrC : Room (k + 1) (A.deeper (envOfC "law" (defScope sLaw) s.heap.objs.size fa (.ref cL))) := hr2.mono (Nat.le_succ _)
    have hr : Room k (A.deeper (envOfC "law" (defScope sLaw) s.heap.objs.size fa (.ref cL))) := hrC.mono (Nat.le_succ _)
    have hu : (A.deeper (envOfC "law" (defScope sLaw) s.heap.objs.size fa (.ref cL))).units + 64 < cLine := hr.units
    have hG : (A.deeper (envOfC "law" (defScope sLaw) s.heap.objs.size fa (.ref cL))).guards = some [] := hG0
    refine ⟨_, (pss_cons (ps_set (i := 1) scLaw.nd rfl (Or.inl rfl) (pe_lst pa_nil))
      (pss_cons (ps_for PassesOwn.never rfl (pi_str pe_str) (pg_name (i := 2) scLaw.nd rfl (Or.inr rfl))
      (pss_one (ps_for PassesOwn.never rfl (pi_str pe_str) (pg_name (i := 3) scLaw.nd rfl (Or.inr rfl))
      (pss_one (ps_expr (pe_bm PySem.F.plainAttrs_list PySem.F.slot_list_extend PySem.F.type_list_extend mt_extend (pv 1) (pa_cons (pe_lc (own := [("_law_three", 4)]) rfl scLaw.nd (pi_str pe_str) (blkOk_by (N := ["_law_script", "_law_many", "_law_one", "_law_two", "_law_three", "_law_some", "_law_k", "_law_well_here", "_law_program_here", "_law_said", "_law_turn", "_law_bent_here", "_law_told"]) (sc := defScope sLaw) (by decide +kernel)) (fun _ _ _ _ _ => (pg_name (i := 4) scLaw.nd rfl (Or.inl rfl))) (fun _ _ _ _ _ => pts_nil) (fun _ _ _ _ _ => (pe_op op_add_str (pe_op op_add_str (pe_op op_add_str pe_str (pv 2)) (pv 3)) (pv 4)))) pa_nil)))))))
      (pss_cons (ps_set (i := 5) scLaw.nd rfl (Or.inl rfl) (pe_lst (pa_cons pe_str (pa_cons pe_str (pa_cons pe_str (pa_cons pe_str (pa_cons pe_str (pa_cons pe_str (pa_cons pe_str pa_nil)))))))))
      (pss_cons (ps_set (i := 5) scLaw.nd rfl (Or.inl rfl) (pe_op op_cat (pv 5) (pe_lst (pa_cons pe_str (pa_cons pe_str (pa_cons pe_str (pa_cons pe_str pa_nil)))))))
      (pss_cons (ps_set (i := 5) scLaw.nd rfl (Or.inl rfl) (pe_op op_cat (pv 5) (pe_lst (pa_cons pe_str (pa_cons pe_str (pa_cons pe_str (pa_cons pe_str pa_nil)))))))
      (pss_cons (ps_set (i := 5) scLaw.nd rfl (Or.inl rfl) (pe_op op_cat (pv 5) (pe_lst (pa_cons pe_str (pa_cons pe_str pa_nil)))))
      (pss_cons (ps_expr (pe_bm PySem.F.plainAttrs_list PySem.F.slot_list_append PySem.F.type_list_append mt_append (pv 5) (pa_cons (pe_op op_add_str (pe_op op_add_str pe_str (pe_bm PySem.F.plainAttrs_str PySem.F.slot_str_join PySem.F.type_str_join mt_join pe_str (pa_cons (pv 1) pa_nil))) pe_str) pa_nil)))
      (pss_cons (ps_expr (pe_bm PySem.F.plainAttrs_list PySem.F.slot_list_append PySem.F.type_list_append mt_append (pv 5) (pa_cons (pe_op op_add_str (pe_op op_add_str pe_str (pe_bm PySem.F.plainAttrs_str PySem.F.slot_str_join PySem.F.type_str_join mt_join pe_str (pa_cons (pe_op op_cat (pv 1) (pe_lst (pa_cons pe_str pa_nil))) pa_nil))) pe_str) pa_nil)))
      (pss_cons (ps_for PassesOwn.never rfl (pi_range1 rfl T.range (pa_cons (pe_callB (call_max2 rfl) (by rfl) T.max (by decide +kernel) (pa_cons pe_int (pa_cons (pe_callB (call_min2 rfl) (by rfl) T.min (by decide +kernel) (pa_cons pe_int (pa_cons (pe_callB call_len_seq (by rfl) T.len PySem.boot_len (pa_cons (pv 0) pa_nil)) pa_nil))) pa_nil))) pa_nil)) (pg_name (i := 6) scLaw.nd rfl (Or.inl rfl))
      (pss_cons (ps_set (i := 7) scLaw.nd rfl (Or.inl rfl) (pe_lnk LWell hr rfl (pa_cons (pv 0) (pa_cons (pv 6) pa_nil))))
      (pss_cons (ps_set (i := 8) scLaw.nd rfl (Or.inl rfl) (pe_lnk LPrg hr rfl (pa_cons (pv 7) (pa_cons (pe_lnk LArc hr rfl (pa_cons (pv 7) (pa_cons pe_int (pa_cons pe_int pa_nil)))) pa_nil))))
      (pss_cons (ps_set (i := 9) scLaw.nd rfl (Or.inr rfl) (pe_lnk LPtx hr rfl (pa_cons (pv 8) pa_nil)))
      (pss_cons (ps_if (PW.pt (pw_or (pt_cmpR op_ne (pe_callB (call_reprD hG hu) (by rfl) T.repr (by decide +kernel) (pa_cons (pe_lnk LFmp hr rfl (pa_cons (pv 8) pa_nil)) pa_nil)) (pe_callB (call_reprD hG hu) (by rfl) T.repr (by decide +kernel) (pa_cons (pv 9) pa_nil)) (nomark _)) (pw_or1 (pt_cmpR op_ne (pe_callB (call_reprD hG hu) (by rfl) T.repr (by decide +kernel) (pa_cons (pe_lnkX (E := fun _ _ _ => False) LPrp hr rfl (passes_call takes_no (fun _ _ _ _ h => h)) (pa_cons (pv 9) pa_nil)) pa_nil)) (pe_callB (call_reprD hG hu) (by rfl) T.repr (by decide +kernel) (pa_cons (pv 8) pa_nil)) (nomark _))))) (pss_one (ps_ret pe_bl)) pss_nil)
      (pss_one (ps_for PassesOwn.never rfl (pi_range1 rfl T.range (pa_cons pe_int pa_nil)) (pg_name (i := 10) scLaw.nd rfl (Or.inl rfl))
      (pss_cons (ps_set (i := 11) scLaw.nd rfl (Or.inl rfl) (pe_lnk LBnt hr rfl (pa_cons (pv 7) (pa_cons (pv 9) pa_nil))))
      (pss_one (ps_expr (pe_bm PySem.F.plainAttrs_list PySem.F.slot_list_append PySem.F.type_list_append mt_append (pv 5) (pa_cons (pe_ifExp (pt_cmpR op_eq (pe_lnk LDraw hr rfl (pa_cons (pv 7) (pa_cons pe_int pa_nil))) pe_int (nomark _)) (pe_lnk LBnt hr rfl (pa_cons (pv 7) (pa_cons (pv 11) pa_nil))) (pv 11)) pa_nil))))))))))))
      (pss_cons (ps_for PassesOwn.never rfl (pi_list (pv 5)) (pg_name (i := 9) scLaw.nd rfl (Or.inr rfl))
      (pss_cons (ps_set (i := 12) scLaw.nd rfl (Or.inl rfl) (pe_parsed (T := [(Pt, (("law" : Str) ++ ".<locals>.") ++ "<lambda>")]) (c := cL) FPsd mPsd rfl bPsd T.toBi EK mLE mPE mIL mVE TB rfl List.mem_cons_self (fun p hp _ => congrArg Prod.snd (List.mem_singleton.mp hp)) hr2 (LamX.lamS_by (show LamX.lamSB (defScope sLaw) _ = true from by decide +kernel)) rfl (fun _ _ _ _ _ => rfl) (fun A outer s H E f c' hrl => pe_lamX LPrp hrl rfl (pa_cons (pv 9) pa_nil))))
      (pss_one (ps_if (pt_cmpR op_ne (pe_callB (call_reprD hG hu) (by rfl) T.repr (by decide +kernel) (pa_cons (pv 12) pa_nil)) (pe_callB (call_reprD hG hu) (by rfl) T.repr (by decide +kernel) (pa_cons (pe_lnk LLdu hr rfl (pa_cons (pv 9) pa_nil)) pa_nil)) (nomark _)) (pss_one (ps_ret pe_bl)) pss_nil))))
      (pss_one (ps_ret pe_bl)))))))))))), ?_⟩
    rw [show L2.start ["_law_script", "_law_many", "_law_one", "_law_two", "_law_three", "_law_some", "_law_k", "_law_well_here", "_law_program_here", "_law_said", "_law_turn", "_law_bent_here", "_law_told"] [.ref sc] = [some (.ref sc), none, none, none, none, none, none, none, none, none, none, none, none] from rfl]
    dsimp only [cxOf, Cx.nox, Cx.wish]
    have ksz : 1000000 ≤ sizeLine := by decide
    have tab0 : Tabs [(Pt, (("law" : Str) ++ ".<locals>.") ++ "<lambda>")] H := fun p hp => by
      rw [List.mem_singleton.mp hp]
      exact LamX.TabS.nil hPt
    with_reducible refine go_seq ?_
    with_reducible refine go_asg ?_
    refine ⟨Nat.zero_le _, fun M nM => ?_⟩
    have sM := same_upd (o := .lst []) nM
    have hM0 := upd_same (H := H) (a := M) (o := .lst [])
    change Ends.nx _ _ (upd _ _ _)
    dsimp only [List.set]
    generalize upd H M _ = G0 at sM hM0 ⊢
    with_reducible refine go_seq ?_
    have zl : (signs ("0123456789" : Str)).length = 10 := by decide +kernel
    refine ⟨"01", rfl, L2.for_it L2.walk_str (fun i σ G => ∃ (os : List V) (v2 v3 v4 : Option V), σ = [some (.ref sc), some (.ref M), v2, v3, v4, none, none, none, none, none, none, none, none] ∧ Same H G ∧ G M = some (.lst os) ∧ TxB 4 os ∧ os.length ≤ 100 * i) ⟨[], _, _, _, rfl, sM, hM0, fun v h => (nomatch h), Nat.zero_le _⟩ (fun _ _ _ _ _ => trivial) (fun i x σ G G' hi hP hY => ?_) (fun σ G hP => ?_)⟩
    · obtain ⟨os, v2, v3, v4, rfl, sG, hM, tx, ln⟩ := hP
      obtain ⟨rfl, c1, hc1, rfl⟩ := hY
      with_reducible refine go_name ?_
      dsimp only [List.set]
      refine ⟨"0123456789", rfl, L2.for_it L2.walk_str (fun j σ G => ∃ (os : List V) (v3 v4 : Option V), σ = [some (.ref sc), some (.ref M), some (.str ⟨#[c1]⟩), v3, v4, none, none, none, none, none, none, none, none] ∧ Same H G ∧ G M = some (.lst os) ∧ TxB 4 os ∧ os.length ≤ 100 * i + 10 * j) ⟨os, _, _, rfl, sG, hM, tx, by omega⟩ (fun _ _ _ _ _ => trivial) (fun j x σ G G' hj hP hY => ?_) (fun σ G hP => ?_)⟩
      · obtain ⟨os, v3, v4, rfl, sG, hM, tx, ln⟩ := hP
        obtain ⟨rfl, c2, hc2, rfl⟩ := hY
        with_reducible refine go_name ?_
        dsimp only [List.set]
        have hil : i < 2 := hi
        have hjl : j < 10 := hj
        with_reducible refine go_drop ?_
        refine g_bm rfl (.inl ⟨rfl, _, SqL.of hM⟩) ?_
        have e1 : ("s" : Str).length = 1 := by decide +kernel
        refine ⟨"0123456789", rfl, fun D nD => lco (n := (signs ("0123456789" : Str)).length) (It := ItL (signs ("0123456789" : Str))) (("0123456789" : Str).cps.toList.map fun c => some (V.str ("s" ++ ⟨#[c1]⟩ ++ ⟨#[c2]⟩ ++ ⟨#[c]⟩))) walk_signs (by unfold signs; rw [List.length_map, List.length_map]) (by omega) nD (fun t x o H2 R R0 lt hx ho s2 r1 r0 => ?_) (fun H2 s2 hD => ?_)⟩
        · unfold ItL signs at hx
          rw [List.getElem?_map] at hx ho
          cases hc : ("0123456789" : Str).cps.toList[t]? with
          | none =>
            rw [hc] at hx
            cases hx
          | some c =>
            rw [hc] at hx ho
            cases hx
            cases ho
            refine ⟨rfl, _, rfl, _, _, rfl, rfl, ?_, _, rfl, _, _, rfl, rfl, ?_, _, rfl, _, _, rfl, rfl, ?_, r1 _ _ rfl (Same.refl _)⟩
            · show 1 + 1 ≤ sizeLine
              omega
            · rw [str_len_append]
              show 1 + 1 + 1 ≤ sizeLine
              omega
            · rw [str_len_append, str_len_append]
              show 1 + 1 + 1 + 1 ≤ sizeLine
              omega
        · rw [keep_some] at hD
          have hM2 := s2 _ _ hM
          have sG2 := same_tr sG s2
          have len10 : (("0123456789" : Str).cps.toList.map fun c => V.str ("s" ++ ⟨#[c1]⟩ ++ ⟨#[c2]⟩ ++ ⟨#[c]⟩)).length = 10 := by
            rw [List.length_map]
            decide +kernel
          refine ⟨M, D, os, _, rfl, rfl, hM2, hD, by omega, ?_⟩
          refine ⟨_, _, _, rfl, (Sab.refl.upd : Sab M H2 _).same sG2 nM, upd_same, tx.app fun v hv => ?_, by rw [List.length_append]; omega⟩
          obtain ⟨c, _, rfl⟩ := List.mem_map.mp hv
          refine ⟨_, rfl, ?_⟩
          rw [str_len_append, str_len_append, str_len_append]
          exact Nat.le_refl 4
      · obtain ⟨os, v3, v4, rfl, sG, hM, tx, ln⟩ := hP
        have e : ("0123456789" : Str).cps.size = 10 := by decide +kernel
        exact ⟨os, _, _, _, rfl, sG, hM, tx, by omega⟩
    obtain ⟨osM, v2, v3, v4, rfl, sM, hM, txM, lnM⟩ := hP
    have e2 : ("01" : Str).cps.size = 2 := by decide +kernel
    rw [e2] at lnM
    obtain ⟨mz, rfl, hmz⟩ := txM.strs
    rw [List.length_map] at lnM
    have jm := jl_le hmz
    clear txM e2 zl hM0
    with_reducible refine go_seq ?_
    with_reducible refine go_asg ?_
    refine txt_lst (n := 7) (by repeat (first | exact txa_nil | refine txa_cons (by decide +kernel) ?_)) (by decide) (fun S0 os0 G1 s0 nS0 hS0 tx0 ln0 => ?_)
    change Ends.nx _ _ _
    dsimp only [List.set]
    with_reducible refine go_seq ?_
    with_reducible refine go_asg ?_
    refine txt_cat (n := 4) (by repeat (first | exact txa_nil | refine txa_cons (by decide +kernel) ?_)) (by decide) rfl hS0 tx0 (by omega) (fun S1 os1 G2 s1 nS1 hS1 tx1 ln1 => ?_)
    change Ends.nx _ _ _
    dsimp only [List.set]
    with_reducible refine go_seq ?_
    with_reducible refine go_asg ?_
    refine txt_cat (n := 4) (by repeat (first | exact txa_nil | refine txa_cons (by decide +kernel) ?_)) (by decide) rfl hS1 tx1 (by omega) (fun S2 os2 G3 s2 nS2 hS2 tx2 ln2 => ?_)
    change Ends.nx _ _ _
    dsimp only [List.set]
    with_reducible refine go_seq ?_
    with_reducible refine go_asg ?_
    refine txt_cat (n := 2) (by repeat (first | exact txa_nil | refine txa_cons (by decide +kernel) ?_)) (by decide) rfl hS2 tx2 (by omega) (fun S os3 G4 s3 nS3 hS tx ln3 => ?_)
    have s14 := same_tr s0 (same_tr s1 (same_tr s2 s3))
    have sG : Same H G4 := same_tr sM s14
    have hM4 := s14 _ _ hM
    have nS : H S = none := none_of_same (same_tr sM (same_tr s0 (same_tr s1 s2))) nS3
    have nSM : S ≠ M := (ne_of_none ((same_tr s0 (same_tr s1 s2)) _ _ hM) nS3).symm
    have hos : os3.length ≤ 400 := by omega
    clear s0 s1 s2 s3 nS3 nS0 nS1 nS2 hS0 hS1 hS2 tx0 tx1 tx2 ln0 ln1 ln2 ln3 s14 hM sM
    change Ends.nx _ _ _
    dsimp only [List.set]
    have l8 : ("defines " : Str).length = 8 := by decide +kernel
    have l8' : ("\nneeds -" : Str).length = 8 := by decide +kernel
    have jt := joinT_le sep_sp mz
    have jt2 := joinT_le sep_sp (mz ++ [("t" : Str)])
    have jm2 : jl (mz ++ [("t" : Str)]) ≤ jl mz + 2 := by
      rw [jl_append]
      exact Nat.le_refl _
    with_reducible refine go_seq ?_
    with_reducible refine go_drop ?_
    refine g_bm rfl (.inl ⟨rfl, _, SqL.of hS⟩) ?_
    refine ⟨rfl, _, rfl, _, M, mz, rfl, rfl, .inl (SqL.of hM4), by rw [join_room sep_sp]; omega, _, _, rfl, rfl, ?_, _, _, rfl, rfl, ?_, S, _, _, rfl, rfl, hS, by omega, ?_⟩
    · show ("defines " : Str).length + (Txt.join " " mz).length ≤ _
      omega
    · rw [str_len_append]
      show ("defines " : Str).length + (Txt.join " " mz).length + ("\nneeds -" : Str).length ≤ _
      omega
    have hlA : ("defines " ++ Txt.join " " mz ++ "\nneeds -" : Str).length ≤ 4000 := by
      rw [str_len_append, str_len_append]
      omega
    have tx := tx.app (txl_cons hlA txl_nil)
    have hS5 := upd_same (H := G4) (a := S) (o := .lst (os3 ++ [V.str ("defines " ++ Txt.join " " mz ++ "\nneeds -")]))
    have sG5 : Same H (upd G4 S (.lst (os3 ++ [V.str ("defines " ++ Txt.join " " mz ++ "\nneeds -")]))) := (Sab.refl.upd : Sab S G4 _).same sG nS
    have hM5 : upd G4 S (.lst (os3 ++ [V.str ("defines " ++ Txt.join " " mz ++ "\nneeds -")])) M = some (.lst (mz.map V.str)) := by
      rw [upd_ne (fun z => nSM z.symm)]
      exact hM4
    have hos5 : (os3 ++ [V.str ("defines " ++ Txt.join " " mz ++ "\nneeds -")]).length ≤ 401 := by
      rw [List.length_append, List.length_singleton]
      omega
    change Ends.nx _ _ (upd _ _ _)
    generalize upd G4 S (.lst (os3 ++ [V.str ("defines " ++ Txt.join " " mz ++ "\nneeds -")])) = G5 at hS5 sG5 hM5 ⊢
    generalize os3 ++ [V.str ("defines " ++ Txt.join " " mz ++ "\nneeds -")] = os5 at tx hS5 hos5
    with_reducible refine go_seq ?_
    with_reducible refine go_drop ?_
    refine g_bm rfl (.inl ⟨rfl, _, SqL.of hS5⟩) ?_
    refine ⟨rfl, _, rfl, (show 1 ≤ sizeLine by decide), fun l6 nl6 => ⟨_, _, _, _, rfl, rfl, same_upd nl6 _ _ hM5, upd_same, by rw [List.length_map, List.length_singleton]; omega, fun l7 nl7 => ?_⟩⟩
    have s67 := same_tr (same_upd (o := .lst [V.str "t"]) nl6) (same_upd (o := .lst (mz.map V.str ++ [V.str "t"])) nl7)
    have h7 : upd (upd G5 l6 (.lst [V.str "t"])) l7 (.lst (mz.map V.str ++ [V.str "t"])) l7 = some (.lst ((mz ++ [("t" : Str)]).map V.str)) := by
      rw [upd_same, List.map_append]
      rfl
    have hS7 := s67 _ _ hS5
    have sG7 := same_tr sG5 s67
    refine ⟨_, l7, mz ++ [("t" : Str)], rfl, rfl, .inl (SqL.of h7), by rw [join_room sep_sp]; omega, _, _, rfl, rfl, ?_, _, _, rfl, rfl, ?_, S, _, _, rfl, rfl, hS7, by omega, ?_⟩
    · show ("defines " : Str).length + (Txt.join " " (mz ++ [("t" : Str)])).length ≤ _
      omega
    · rw [str_len_append]
      show ("defines " : Str).length + (Txt.join " " (mz ++ [("t" : Str)])).length + ("\nneeds -" : Str).length ≤ _
      omega
    have hlB : ("defines " ++ Txt.join " " (mz ++ [("t" : Str)]) ++ "\nneeds -" : Str).length ≤ 4000 := by
      rw [str_len_append, str_len_append]
      omega
    have tx := tx.app (txl_cons hlB txl_nil)
    have hS := upd_same (H := upd (upd G5 l6 (.lst [V.str "t"])) l7 (.lst (mz.map V.str ++ [V.str "t"]))) (a := S) (o := .lst (os5 ++ [V.str ("defines " ++ Txt.join " " (mz ++ [("t" : Str)]) ++ "\nneeds -")]))
    have sG : Same H (upd (upd (upd G5 l6 (.lst [V.str "t"])) l7 (.lst (mz.map V.str ++ [V.str "t"]))) S (.lst (os5 ++ [V.str ("defines " ++ Txt.join " " (mz ++ [("t" : Str)]) ++ "\nneeds -")]))) := (Sab.refl.upd : Sab S _ _).same sG7 nS
    have hos : (os5 ++ [V.str ("defines " ++ Txt.join " " (mz ++ [("t" : Str)]) ++ "\nneeds -")]).length ≤ 402 := by
      rw [List.length_append, List.length_singleton]
      omega
    change Ends.nx _ _ (upd _ _ _)
    generalize upd (upd (upd G5 l6 (.lst [V.str "t"])) l7 (.lst (mz.map V.str ++ [V.str "t"]))) S (.lst (os5 ++ [V.str ("defines " ++ Txt.join " " (mz ++ [("t" : Str)]) ++ "\nneeds -")])) = G6 at hS sG ⊢
    generalize os5 ++ [V.str ("defines " ++ Txt.join " " (mz ++ [("t" : Str)]) ++ "\nneeds -")] = os at tx hS hos
    clear hS7 sG7 h7 s67 hM5 hos5 hS5 sG5 hlA hlB
    with_reducible refine go_seq ?_
    refine ⟨_, rfl, sc, _, rfl, .inl (SqL.tb hSc (ext_same sG)), _, _, rfl, _, _, rfl, _, rfl, ?_⟩
    rw [List.length_map]
    obtain ⟨kk, hk3, hke⟩ : ∃ kk : Nat, kk ≤ 3 ∧ (if (if (ns.length : Int) < 3 then (ns.length : Int) else 3) > 1 then (if (ns.length : Int) < 3 then (ns.length : Int) else 3) else 1) = (kk : Int) := by
      refine ⟨Int.toNat (if (if (ns.length : Int) < 3 then (ns.length : Int) else 3) > 1 then (if (ns.length : Int) < 3 then (ns.length : Int) else 3) else 1), ?_, ?_⟩
      · split
        · split <;> omega
        · omega
      · split
        · split <;> omega
        · rfl
    rw [hke]
    refine ⟨by omega, by omega, ?_⟩
    refine for_range (n := kk) (fun i σ G => ∃ (os : List V) (v6 v7 v8 v9 v10 v11 v12 : Option V), σ = [some (.ref sc), some (.ref M), v2, v3, v4, some (.ref S), v6, v7, v8, v9, v10, v11, v12] ∧ Same H G ∧ G S = some (.lst os) ∧ TxL os ∧ os.length ≤ 450 + 20 * i) ⟨os, _, _, _, _, _, _, _, rfl, sG, hS, tx, by omega⟩ (fun i σ G hi hP => ?_) (fun σ G hP => ?_)
    · obtain ⟨os, v6, v7, v8, v9, v10, v11, v12, rfl, sG, hS, tx, hos⟩ := hP
      with_reducible refine go_name ?_
      dsimp only [List.set]
      with_reducible refine go_seq ?_
      with_reducible refine go_asg ?_
      refine ⟨_, rfl, _, rfl, sc, ns, 0 + (i : Nat), rfl, SqL.tb hSc (ext_same sG), by omega, by omega, fun a o0 b0 na ho hb0 hb1 => ?_⟩
      have ja := same_upd (o := .lst [V.int o0, V.int b0, V.int 0]) na
      have wa : WellAt (upd G a (.lst [V.int o0, V.int b0, V.int 0])) a 0 := ⟨o0, b0, 0, upd_same, ho, hb0, hb1, by decide, by decide⟩
      have na0 : H a = none := none_of_same sG na
      have nSa : S ≠ a := ne_of_none hS na
      have hSB := ja _ _ hS
      have sB := same_tr sG ja
      change Ends.nx _ _ (upd _ _ _)
      dsimp only [List.set]
      generalize upd G a (.lst [V.int o0, V.int b0, V.int 0]) = B at wa hSB sB ⊢
      clear ja na hS sG
      with_reducible refine go_seq ?_
      with_reducible refine go_asg ?_
      refine ⟨_, rfl, _, rfl, a, 0, 6, 3, rfl, wa, by decide, by decide, by decide, by decide, fun as u G3 hok hz hml hsl s3 w3 hu3 => ⟨a, _, u, as, rfl, w3, by omega, hu3, hok, by omega, fun pa pb v G4 d1 d2 d3 n1 n2 n3 s4 w4 hv => ?_⟩⟩
      have jln : ∀ {zs : List Str}, zs.all isNameS = true → zs.length ≤ 4 → jl zs ≤ 36 := fun {zs} h hl => by
        have k := jl_le (b := 8) (ps := zs) fun p hp => name_len (List.all_eq_true.mp h p hp)
        omega
      have ja := jln d1 d3
      have jb := jln n1 n3
      have ka : okLot pa = true := Bool.and_eq_true_iff.mpr ⟨d2, decide_eq_true (by omega)⟩
      have kb : okLot pb = true := Bool.and_eq_true_iff.mpr ⟨n2, decide_eq_true (by omega)⟩
      have hll := prog_len (a := pa) (b := pb) (by omega) (by omega)
      have hss := prog_small d1 n1
      have s34 := s3.trans s4
      have hS4 := s34 _ _ nSa hSB
      have sG4 : Same H G4 := s34.same sB na0
      change Ends.nx _ _ _
      dsimp only [List.set]
      clear s3 s4 s34 w3 hu3 wa hSB sB
      with_reducible refine go_seq ?_
      with_reducible refine go_asg ?_
      refine ⟨_, rfl, v, pa, pb, rfl, hv, by omega, by omega, fun G5 s5 => ?_⟩
      have hS5 := s5 _ _ hS4
      have sG5 := same_tr sG4 s5
      have w5 := w4.mono s5
      have hv5 := hv.mono s5
      clear hS4 sG4 s5 w4 hv
      change Ends.nx _ _ _
      dsimp only [List.set]
      have hsh := shn_text (n := 600) hss (by omega)
      with_reducible refine go_seq ?_
      with_reducible refine g_if ?_
      with_reducible refine g_or ?_
      with_reducible refine g_test ?_
      with_reducible refine g_op ?_
      with_reducible refine g_cb ?_
      refine ⟨_, rfl, v, pa, pb, rfl, hv5, by omega, by omega, fun G6 s6 => repr_shn (.str _) hsh (by decide) (by decide) ?_⟩
      with_reducible refine g_cb ?_
      refine ⟨_, rfl, repr_shn (.str _) hsh (by decide) (by decide) ⟨rfl, _, rfl, if_f (by simp) ?_⟩⟩
      have hS6 := s6 _ _ hS5
      have sG6 := same_tr sG5 s6
      have w6 := w5.mono s6
      have hv6 := hv5.mono s6
      clear hS5 sG5 s6 w5 hv5
      have hpd := parsed_prog d1 n1 ka kb
      with_reducible refine g_test ?_
      with_reducible refine g_op ?_
      with_reducible refine g_cb ?_
      have hshl : Shn (.tuple [strsD pa, strsD pb]) 900000 2 := shn_prog d1 n1 (by omega) (by omega)
      refine ⟨_, rfl, progT pa pb, rfl, by omega, fun xa xb e u G7 s7 hu => ?_, fun n e => ?_⟩
      rotate_left
      · rw [hpd] at e
        cases e
      rw [hpd] at e
      cases e
      refine repr_shn hu hshl (by decide) (by decide) ?_
      with_reducible refine g_cb ?_
      refine ⟨_, rfl, repr_shn (hv6.mono s7) hshl (by decide) (by decide) ⟨rfl, _, rfl, if_f (by simp) ?_⟩⟩
      with_reducible refine go_next ?_
      have hS7 := s7 _ _ hS6
      have sG7 := same_tr sG6 s7
      have w7 := w6.mono s7
      clear hS6 sG6 s7 w6 hv6
      refine ⟨((16 : Nat) : Int), rfl, by omega, by omega, for_range (n := 16) (fun j σ G => ∃ (os2 : List V) (v10 v11 v12 : Option V), σ = [some (.ref sc), some (.ref M), v2, v3, v4, some (.ref S), some (.int (0 + (i : Nat))), some (.ref a), some v, some (.str (progT pa pb)), v10, v11, v12] ∧ Same H G ∧ G S = some (.lst os2) ∧ TxL os2 ∧ os2.length ≤ os.length + j ∧ WellAt G a (100000 + 20 * j)) ⟨os, _, _, _, rfl, sG7, hS7, tx, by omega, w7.le (by omega)⟩ (fun j σ G hj hP => ?_) (fun σ G hP => ?_)⟩
      · obtain ⟨os2, v10, v11, v12, rfl, sG, hS, tx, hos2, w0⟩ := hP
        with_reducible refine go_name ?_
        dsimp only [List.set]
        with_reducible refine go_seq ?_
        with_reducible refine go_asg ?_
        refine ⟨_, rfl, _, rfl, a, _, progT pa pb, rfl, w0, by omega, by omega, fun z2 G8 hz2 s8 w8 => ?_⟩
        have hS8 := s8 _ _ nSa hS
        have sG8 : Same H G8 := s8.same sG na0
        change Ends.nx _ _ _
        dsimp only [List.set]
        with_reducible refine go_drop ?_
        refine ⟨_, rfl, .inl ⟨rfl, _, SqL.of hS8⟩, ?_⟩
        have fin : ∀ (z3 : Str) (G9 : Hp), z3.length ≤ 4000 → Sab a G8 G9 → WellAt G9 a (100000 + 20 * (j + 1)) → rAppend (.ref S) [.str z3] G9 fun _ H1 => ∃ (os2 : List V) (x6 x7 x8 : Option V), [some (V.ref sc), some (V.ref M), v2, v3, v4, some (V.ref S), some (V.int (0 + (i : Nat))), some (V.ref a), some v, some (V.str (progT pa pb)), some (V.int (0 + (j : Nat))), some (V.str z2), v12] = [some (.ref sc), some (.ref M), v2, v3, v4, some (.ref S), some (.int (0 + (i : Nat))), some (.ref a), some v, some (.str (progT pa pb)), x6, x7, x8] ∧ Same H H1 ∧ H1 S = some (.lst os2) ∧ TxL os2 ∧ os2.length ≤ os.length + (j + 1) ∧ WellAt H1 a (100000 + 20 * (j + 1)) := fun z3 G9 hz3 s9 w9 => by
          have hS9 := s9 _ _ nSa hS8
          have sG9 : Same H G9 := s9.same sG8 na0
          refine ⟨S, os2, _, rfl, rfl, hS9, by omega, os2 ++ [V.str z3], _, _, _, rfl, (Sab.refl.upd : Sab S G9 _).same sG9 nS, upd_same, tx.app (txl_cons hz3 txl_nil), by rw [List.length_append, List.length_singleton]; omega, ?_⟩
          obtain ⟨o, b, n, h1, h2⟩ := w9
          exact ⟨o, b, n, by rw [upd_ne (fun z => nSa z.symm)]; exact h1, h2⟩
        refine g_ife (g_test (g_op ⟨_, rfl, a, _, _, rfl, w8, by decide, by decide, by omega, fun d G9 hd s9 w9 => ⟨rfl, _, rfl, ?_⟩⟩))
        by_cases hd0 : (V.int (d : Nat)) = V.int 0
        · refine if_t (decide_eq_true hd0) ⟨_, rfl, _, rfl, a, _, z2, rfl, w9, by omega, by omega, fun z3 G10 hz3 s10 w10 => ?_⟩
          exact fin z3 G10 (by omega) (s9.trans s10) (w10.le (by omega))
        · exact if_f (decide_eq_false hd0) ⟨_, rfl, fin z2 G9 (by omega) s9 (w9.le (by omega))⟩
      · obtain ⟨os2, v10, v11, v12, rfl, sG, hS, tx, hos2, w0⟩ := hP
        exact ⟨os2, _, _, _, _, _, _, _, rfl, sG, hS, tx, by omega⟩
    · obtain ⟨os, v6, v7, v8, v9, v10, v11, v12, rfl, sG, hS, tx, hos⟩ := hP
      have tab1 := tabs_same tab0 sG
      generalize hTt : [(Pt, (("law" : Str) ++ ".<locals>.") ++ "<lambda>")] = Tt at tab1 ⊢
      with_reducible refine go_seq ?_
      refine ⟨_, rfl, S, rfl, ⟨_, SqL.of hS⟩, for_list (xs := os) (fun j σ G2 => ∃ (v9 v10 v11 v12 : Option V), σ = [some (.ref sc), some (.ref M), v2, v3, v4, some (.ref S), v6, v7, v8, v9, v10, v11, v12] ∧ Gr Tt G G2) ⟨_, _, _, _, rfl, ⟨ExtN.refl _, tab1⟩⟩ (fun j σ G2 _ hP => ?_) (fun j x σ G2 hx hP => ?_) (fun σ G2 hP => ?_)⟩
      · obtain ⟨_, _, _, _, _, g⟩ := hP
        exact SqL.of (tb_lst g.1 hS)
      · obtain ⟨v9, v10, v11, v12, rfl, g⟩ := hP
        obtain ⟨z, rfl, hz⟩ := tx x (List.mem_of_getElem? hx)
        have hsh := told_shn hz
        with_reducible refine go_name ?_
        dsimp only [List.set]
        with_reducible refine go_seq ?_
        with_reducible refine go_asg ?_
        have told : ∀ Q2 : VK, (∀ u G3, Gr Tt G2 G3 → Dr G3 u (toldP z) → Q2 u G3) → LamX.tLam Tt (TTc CP) (fun E => tCall (spPrp CP) [] E (tCons (tVar 9) tNil)) [some (.ref sc), some (.ref M), v2, v3, v4, some (.ref S), v6, v7, v8, some (.str z), v10, v11, v12] G2 Q2 := fun Q2 h => by
          refine ⟨g.2, fun G3 e1 t1 G4 s4 => ?_⟩
          have g4 : Gr Tt G2 G4 := Gr.same ⟨e1, t1⟩ s4
          refine ⟨_, rfl, z, rfl, by omega, fun xa xb e u G5 s5 hu => h u G5 (g4.same s5) ?_, fun n e dd G5 s5 hdd => ⟨rfl, dd, n, rfl, hdd, fun G6 L s6 hL => h _ G6 ((g4.same s5).same s6) ?_⟩⟩
          · unfold toldP
            rw [e]
            exact hu
          · unfold toldP
            rw [e]
            exact .lst hL (.cons (.int _) .nil)
        refine told _ fun u G3 g3 hu => ?_
        have g23 : Gr Tt G G3 := ⟨g.1.trans g3.1, g3.2⟩
        change Ends.nx _ _ _
        dsimp only [List.set]
        with_reducible refine g_if ?_
        with_reducible refine g_test ?_
        with_reducible refine g_op ?_
        with_reducible refine g_cb ?_
        refine ⟨_, rfl, repr_shn hu hsh (by decide) (by decide) ?_⟩
        with_reducible refine g_cb ?_
        refine ⟨_, rfl, z, rfl, hz, fun u2 G4 s4 hu2 => repr_shn hu2 hsh (by decide) (by decide) ⟨rfl, _, rfl, if_f (by simp) ?_⟩⟩
        with_reducible refine go_next ?_
        exact ⟨_, _, _, _, rfl, g23.same s4⟩
      · obtain ⟨v9, v10, v11, v12, rfl, g⟩ := hP
        with_reducible refine g_ret ?_
        exact q G2
end

end LK
namespace LK
open PySem PySem.Spec PyProof.Rows L2
section
variable {P : Program} {w : World} {K : PySem.W.Frag} {mg : Str → Option Value} {base : Heap}
abbrev sIP : Stmt := inClass (topS 3) 0
theorem scIP : FnScope ["self", "row"] ["self", "row"] (defScope sIP) := ⟨rfl, rfl, rfl, by decide +kernel, rfl, by decide +kernel, by decide +kernel⟩
theorem ok_IP {fa : Addr} {fd : FuncData} {k : Nat} (F : Fun K "__init__" "ParseError.__init__" sIP fa fd) : FnOk P w K mg base CX0 (k + 1) fa fd ["self", "row"] (spInit K "row") := by
  refine F.ok scIP (fun vs H Q E h => ?_) (fun cdv A outer s H vs Q E hr h => ?_)
  · obtain ⟨a, C, v, rfl, _⟩ := h
    rfl
  · obtain ⟨a, C, v, rfl, T, no, ha, q⟩ := h
    exact ⟨_, pss_one (ps_ost (pv 0) (pv 1)), v, rfl, .ref a, rfl, a, C, rfl, T, no, .inl ⟨ha, q⟩⟩
end
theorem all_mk {l : PySem.W.OpenLaw} {w : World} {K : PySem.W.Frag} {h : Heap} {mg : Str → Option Value} {fa fNm fAs fSy fPg fFrw fFmp fRot fArn fIpr fNbh fPrp fWell fDraw fPick fNms fMix fNds fArc fAll fMkr fPrg fLnm fPtx fLpr fLdu fBnt fPsd fLaw CP fIP CE CL cL Pt : Addr} {tNC tLN tMS : Tok} (X : K.In h) (G : h.Ns mainGlobals mg) (hfa : mg "law" = some (.ref fa)) (hco : ∀ (o : Obj) (fd : FuncData), h.get? fa = some o → o.data = .func fd → fd.code = .ref cL)
    (cNC : PySem.W.nsIn K mainGlobals "NAME_CHARACTERS" = some (some (.str nameZ tNC)))
    (cLN : PySem.W.nsIn K mainGlobals "LONGEST_NAME" = some (some (.int 8 tLN)))
    (cMS : PySem.W.nsIn K mainGlobals "MOST_SYMBOLS" = some (some (.int 200 tMS)))
    (aP : PySem.W.nsIn K mainGlobals "ParseError" = some (some (.ref CP)))
    (xP : ExcC K CP)
    (oP : OexC K CP)
    (eP : ErrF K CP "row")
    (iP : PySem.W.findIn K (.ref CP) "__init__" = some (some (.ref fIP)))
    (tP : PySem.W.typeIn K (.ref fIP) = some (.type "function"))
    (FP : ∃ fd, Fun K "__init__" "ParseError.__init__" sIP fIP fd)
    (aE : PySem.W.nsIn K mainGlobals "LinkError" = some (some (.ref CE)))
    (aL : PySem.W.nsIn K mainGlobals "InvalidLine" = some (some (.ref CL)))
    (kno : PySem.W.kitOne K (.ref CP) (.ref CL) = some false)
    (hit : PySem.W.exmOne K (.ref CP) (.ref CE) = some true)
    (kve : PySem.W.kitOne K (.ref CP) (.type "ValueError") = some true)
    (m_VE : PySem.W.nsIn K mainGlobals "ValueError" = some none)
    (aNm : PySem.W.nsIn K mainGlobals "is_name" = some (some (.ref fNm)))
    (FNm : ∃ fd, Fun K "is_name" "is_name" sNm fNm fd)
    (aAs : PySem.W.nsIn K mainGlobals "are_ascending" = some (some (.ref fAs)))
    (FAs : ∃ fd, Fun K "are_ascending" "are_ascending" sAs fAs fd)
    (aSy : PySem.W.nsIn K mainGlobals "are_symbols" = some (some (.ref fSy)))
    (FSy : ∃ fd, Fun K "are_symbols" "are_symbols" sSy fSy fd)
    (aPg : PySem.W.nsIn K mainGlobals "is_program" = some (some (.ref fPg)))
    (FPg : ∃ fd, Fun K "is_program" "is_program" sPg fPg fd)
    (aFrw : PySem.W.nsIn K mainGlobals "format_row" = some (some (.ref fFrw)))
    (FFrw : ∃ fd, Fun K "format_row" "format_row" sFrw fFrw fd)
    (aFmp : PySem.W.nsIn K mainGlobals "format_program" = some (some (.ref fFmp)))
    (FFmp : ∃ fd, Fun K "format_program" "format_program" sFmp fFmp fd)
    (aRot : PySem.W.nsIn K mainGlobals "rows_of_text" = some (some (.ref fRot)))
    (FRot : ∃ fd, Fun K "rows_of_text" "rows_of_text" sRot fRot fd)
    (aArn : PySem.W.nsIn K mainGlobals "are_names" = some (some (.ref fArn)))
    (FArn : ∃ fd, Fun K "are_names" "are_names" sArn fArn fd)
    (aIpr : PySem.W.nsIn K mainGlobals "is_program_row" = some (some (.ref fIpr)))
    (FIpr : ∃ fd, Fun K "is_program_row" "is_program_row" sIpr fIpr fd)
    (aNbh : PySem.W.nsIn K mainGlobals "names_behind" = some (some (.ref fNbh)))
    (FNbh : ∃ fd, Fun K "names_behind" "names_behind" sNbh fNbh fd)
    (aPrp : PySem.W.nsIn K mainGlobals "parse_program" = some (some (.ref fPrp)))
    (FPrp : ∃ fd, Fun K "parse_program" "parse_program" sPrp fPrp fd)
    (aWell : PySem.W.nsIn K mainGlobals "_law_well" = some (some (.ref fWell)))
    (FWell : ∃ fd, Fun K "_law_well" "_law_well" sWell fWell fd)
    (aDraw : PySem.W.nsIn K mainGlobals "_law_draw" = some (some (.ref fDraw)))
    (FDraw : ∃ fd, Fun K "_law_draw" "_law_draw" sDraw fDraw fd)
    (aPick : PySem.W.nsIn K mainGlobals "_law_pick" = some (some (.ref fPick)))
    (FPick : ∃ fd, Fun K "_law_pick" "_law_pick" sPick fPick fd)
    (aNms : PySem.W.nsIn K mainGlobals "_law_names" = some (some (.ref fNms)))
    (FNms : ∃ fd, Fun K "_law_names" "_law_names" sNms fNms fd)
    (aMix : PySem.W.nsIn K mainGlobals "_law_mixed" = some (some (.ref fMix)))
    (FMix : ∃ fd, Fun K "_law_mixed" "_law_mixed" sMix fMix fd)
    (aNds : PySem.W.nsIn K mainGlobals "_law_needs" = some (some (.ref fNds)))
    (FNds : ∃ fd, Fun K "_law_needs" "_law_needs" sNds fNds fd)
    (aArc : PySem.W.nsIn K mainGlobals "_law_archives" = some (some (.ref fArc)))
    (FArc : ∃ fd, Fun K "_law_archives" "_law_archives" sArc fArc fd)
    (aAll : PySem.W.nsIn K mainGlobals "_law_all_members" = some (some (.ref fAll)))
    (FAll : ∃ fd, Fun K "_law_all_members" "_law_all_members" sAll fAll fd)
    (aMkr : PySem.W.nsIn K mainGlobals "_law_makers" = some (some (.ref fMkr)))
    (FMkr : ∃ fd, Fun K "_law_makers" "_law_makers" sMkr fMkr fd)
    (aPrg : PySem.W.nsIn K mainGlobals "_law_program" = some (some (.ref fPrg)))
    (FPrg : ∃ fd, Fun K "_law_program" "_law_program" sPrg fPrg fd)
    (aLnm : PySem.W.nsIn K mainGlobals "_law_is_name" = some (some (.ref fLnm)))
    (FLnm : ∃ fd, Fun K "_law_is_name" "_law_is_name" sLnm fLnm fd)
    (aPtx : PySem.W.nsIn K mainGlobals "_law_program_text" = some (some (.ref fPtx)))
    (FPtx : ∃ fd, Fun K "_law_program_text" "_law_program_text" sPtx fPtx fd)
    (aLpr : PySem.W.nsIn K mainGlobals "_law_program_row" = some (some (.ref fLpr)))
    (FLpr : ∃ fd, Fun K "_law_program_row" "_law_program_row" sLpr fLpr fd)
    (aLdu : PySem.W.nsIn K mainGlobals "_law_due" = some (some (.ref fLdu)))
    (FLdu : ∃ fd, Fun K "_law_due" "_law_due" sLdu fLdu fd)
    (aBnt : PySem.W.nsIn K mainGlobals "_law_bent" = some (some (.ref fBnt)))
    (FBnt : ∃ fd, Fun K "_law_bent" "_law_bent" sBnt fBnt fd)
    (aPsd : PySem.W.nsIn K mainGlobals "_law_parsed" = some (some (.ref fPsd)))
    (FPsd : ∃ fd, Fun K "_law_parsed" "_law_parsed" sPsd fPsd fd)
    (m_len : PySem.W.nsIn K mainGlobals "len" = some none)
    (m_isinstance : PySem.W.nsIn K mainGlobals "isinstance" = some none)
    (m_all : PySem.W.nsIn K mainGlobals "all" = some none)
    (m_set : PySem.W.nsIn K mainGlobals "set" = some none)
    (m_tuple : PySem.W.nsIn K mainGlobals "tuple" = some none)
    (m_list : PySem.W.nsIn K mainGlobals "list" = some none)
    (m_sorted : PySem.W.nsIn K mainGlobals "sorted" = some none)
    (m_zip : PySem.W.nsIn K mainGlobals "zip" = some none)
    (m_str : PySem.W.nsIn K mainGlobals "str" = some none)
    (m_range : PySem.W.nsIn K mainGlobals "range" = some none)
    (m_dict : PySem.W.nsIn K mainGlobals "dict" = some none)
    (m_int : PySem.W.nsIn K mainGlobals "int" = some none)
    (m_repr : PySem.W.nsIn K mainGlobals "repr" = some none)
    (m_any : PySem.W.nsIn K mainGlobals "any" = some none)
    (m_enumerate : PySem.W.nsIn K mainGlobals "enumerate" = some none)
    (m_max : PySem.W.nsIn K mainGlobals "max" = some none)
    (m_min : PySem.W.nsIn K mainGlobals "min" = some none)
    (m_abs : PySem.W.nsIn K mainGlobals "abs" = some none)
    (gLaw : PySem.W.nsIn K mainGlobals "law" = some (some (.ref fLaw)))
    (FLaw : ∃ oc od kV doc pm an cdv ct osl, K.lookup fLaw = some ⟨oc, od, .func (PySem.W.fnOf "law" "law" (defArgs sLaw) (defBody sLaw) (defScope sLaw) .none kV doc pm an cdv ct), osl⟩ ∧ PySem.W.codeIn K cdv "law" = true ∧ PySem.W.keepIn K (.ref fLaw) = true) :
    ∃ fd : FuncData, (∀ (s : Shared) (u : Value), BindsTo s fd ⟨[u], []⟩ [("_law_script", u)]) ∧ ∀ base : Heap, K.In base → base.Ns mainGlobals mg → LamX.TabB base mg cL Pt → FnG l.prog w K mg base CX0 15 fa fd ["_law_script"] (spLawT K Pt) := by
  have e := hfa.symm.trans (PySem.W.mg_of X G gLaw)
  cases e
  have T : Bl mg := ⟨⟨PySem.W.mg_none_of X G m_len, PySem.W.mg_none_of X G m_isinstance, PySem.W.mg_none_of X G m_all, PySem.W.mg_none_of X G m_set, PySem.W.mg_none_of X G m_tuple, PySem.W.mg_none_of X G m_list, PySem.W.mg_none_of X G m_sorted, PySem.W.mg_none_of X G m_zip, PySem.W.mg_none_of X G m_str⟩, PySem.W.mg_none_of X G m_range, PySem.W.mg_none_of X G m_dict, PySem.W.mg_none_of X G m_int, PySem.W.mg_none_of X G m_repr, PySem.W.mg_none_of X G m_any, PySem.W.mg_none_of X G m_enumerate, PySem.W.mg_none_of X G m_max, PySem.W.mg_none_of X G m_min, PySem.W.mg_none_of X G m_abs⟩
  have mNC := PySem.W.mg_of X G cNC
  have mLN := PySem.W.mg_of X G cLN
  have mMS := PySem.W.mg_of X G cMS
  obtain ⟨dNm, FNm⟩ := FNm
  have bNm := FNm.binds (ps := ["value"]) fun _ _ _ _ _ _ us hl => match us, hl with | [_], _ => rfl
  obtain ⟨dAs, FAs⟩ := FAs
  have bAs := FAs.binds (ps := ["names"]) fun _ _ _ _ _ _ us hl => match us, hl with | [_], _ => rfl
  obtain ⟨dSy, FSy⟩ := FSy
  have bSy := FSy.binds (ps := ["value", "least", "most"]) fun _ _ _ _ _ _ us hl => match us, hl with | [_, _, _], _ => rfl
  obtain ⟨dPg, FPg⟩ := FPg
  have bPg := FPg.binds (ps := ["value"]) fun _ _ _ _ _ _ us hl => match us, hl with | [_], _ => rfl
  obtain ⟨dFrw, FFrw⟩ := FFrw
  have bFrw := FFrw.binds (ps := ["word", "names"]) fun _ _ _ _ _ _ us hl => match us, hl with | [_, _], _ => rfl
  obtain ⟨dFmp, FFmp⟩ := FFmp
  have bFmp := FFmp.binds (ps := ["program"]) fun _ _ _ _ _ _ us hl => match us, hl with | [_], _ => rfl
  obtain ⟨dRot, FRot⟩ := FRot
  have bRot := FRot.binds (ps := ["text", "has_form"]) fun _ _ _ _ _ _ us hl => match us, hl with | [_, _], _ => rfl
  obtain ⟨dArn, FArn⟩ := FArn
  have bArn := FArn.binds (ps := ["values"]) fun _ _ _ _ _ _ us hl => match us, hl with | [_], _ => rfl
  obtain ⟨dIpr, FIpr⟩ := FIpr
  have bIpr := FIpr.binds (ps := ["row"]) fun _ _ _ _ _ _ us hl => match us, hl with | [_], _ => rfl
  obtain ⟨dNbh, FNbh⟩ := FNbh
  have bNbh := FNbh.binds (ps := ["rows", "word"]) fun _ _ _ _ _ _ us hl => match us, hl with | [_, _], _ => rfl
  obtain ⟨dPrp, FPrp⟩ := FPrp
  have bPrp := FPrp.binds (ps := ["text"]) fun _ _ _ _ _ _ us hl => match us, hl with | [_], _ => rfl
  obtain ⟨dWell, FWell⟩ := FWell
  have bWell := FWell.binds (ps := ["_law_script", "_law_k"]) fun _ _ _ _ _ _ us hl => match us, hl with | [_, _], _ => rfl
  obtain ⟨dDraw, FDraw⟩ := FDraw
  have bDraw := FDraw.binds (ps := ["_law_well_here", "_law_below"]) fun _ _ _ _ _ _ us hl => match us, hl with | [_, _], _ => rfl
  obtain ⟨dPick, FPick⟩ := FPick
  have bPick := FPick.binds (ps := ["_law_well_here", "_law_some"]) fun _ _ _ _ _ _ us hl => match us, hl with | [_, _], _ => rfl
  obtain ⟨dNms, FNms⟩ := FNms
  have bNms := FNms.binds (ps := ["_law_well_here", "_law_count", "_law_stems"]) fun _ _ _ _ _ _ us hl => match us, hl with | [_, _, _], _ => rfl
  obtain ⟨dMix, FMix⟩ := FMix
  have bMix := FMix.binds (ps := ["_law_well_here", "_law_some"]) fun _ _ _ _ _ _ us hl => match us, hl with | [_, _], _ => rfl
  obtain ⟨dNds, FNds⟩ := FNds
  have bNds := FNds.binds (ps := ["_law_well_here", "_law_symbols", "_law_at", "_law_way"]) fun _ _ _ _ _ _ us hl => match us, hl with | [_, _, _, _], _ => rfl
  obtain ⟨dArc, FArc⟩ := FArc
  have bArc := FArc.binds (ps := ["_law_well_here", "_law_most", "_law_rooms"]) fun _ _ _ _ _ _ us hl => match us, hl with | [_, _, _], _ => rfl
  obtain ⟨dAll, FAll⟩ := FAll
  have bAll := FAll.binds (ps := ["_law_archives_here"]) fun _ _ _ _ _ _ us hl => match us, hl with | [_], _ => rfl
  obtain ⟨dMkr, FMkr⟩ := FMkr
  have bMkr := FMkr.binds (ps := ["_law_archives_here"]) fun _ _ _ _ _ _ us hl => match us, hl with | [_], _ => rfl
  obtain ⟨dPrg, FPrg⟩ := FPrg
  have bPrg := FPrg.binds (ps := ["_law_well_here", "_law_archives_here"]) fun _ _ _ _ _ _ us hl => match us, hl with | [_, _], _ => rfl
  obtain ⟨dLnm, FLnm⟩ := FLnm
  have bLnm := FLnm.binds (ps := ["_law_said"]) fun _ _ _ _ _ _ us hl => match us, hl with | [_], _ => rfl
  obtain ⟨dPtx, FPtx⟩ := FPtx
  have bPtx := FPtx.binds (ps := ["_law_program_here"]) fun _ _ _ _ _ _ us hl => match us, hl with | [_], _ => rfl
  obtain ⟨dLpr, FLpr⟩ := FLpr
  have bLpr := FLpr.binds (ps := ["_law_row"]) fun _ _ _ _ _ _ us hl => match us, hl with | [_], _ => rfl
  obtain ⟨dLdu, FLdu⟩ := FLdu
  have bLdu := FLdu.binds (ps := ["_law_said"]) fun _ _ _ _ _ _ us hl => match us, hl with | [_], _ => rfl
  obtain ⟨dBnt, FBnt⟩ := FBnt
  have bBnt := FBnt.binds (ps := ["_law_well_here", "_law_said"]) fun _ _ _ _ _ _ us hl => match us, hl with | [_, _], _ => rfl
  obtain ⟨dPsd, FPsd⟩ := FPsd
  have bPsd := FPsd.binds (ps := ["_law_call"]) fun _ _ _ _ _ _ us hl => match us, hl with | [_], _ => rfl
  obtain ⟨oc, od, kV, doc, pm, an, cdv, ct, osl, lk, lc, lp⟩ := FLaw
  have FL := fun_mk (st := sLaw) lk lc lp
  refine ⟨PySem.W.fnOf "law" "law" (defArgs sLaw) (defBody sLaw) (defScope sLaw) .none kV doc pm an cdv ct, fun s u => .of_eq rfl, fun base _ _ TB => ?_⟩
  have hcode := hco _ _ (X _ _ lk) rfl
  have hcd : ∀ (kV2 doc2 pm2 : Value) (an2 : Option Addr) (cdv2 ct2 : Value), PySem.W.fnOf "law" "law" (defArgs sLaw) (defBody sLaw) (defScope sLaw) .none kV doc pm an cdv ct = PySem.W.fnOf "law" "law" (defArgs sLaw) (defBody sLaw) (defScope sLaw) .none kV2 doc2 pm2 an2 cdv2 ct2 → cdv2 = .ref cL := fun _ _ _ _ _ _ e => (congrArg FuncData.code e).symm.trans hcode
  obtain ⟨dIP, FP⟩ := FP
  have bIP := FP.binds (ps := ["self", "row"]) fun _ _ _ _ _ _ us hl => match us, hl with | [_, _], _ => rfl
  have MP : ErrCls l.prog w K mg base "ParseError" "row" CP := ⟨PySem.W.mg_of X G aP, oP, eP.no, fIP, dIP, iP, tP, ok_IP FP, bIP⟩
  have LNm : ∀ n, 1 ≤ n → Lnk l.prog w K mg base "is_name" n ["value"] (spB isNameD) := fun n hn => (⟨⟨fNm, dNm, PySem.W.mg_of X G aNm, FNm.kp, ok_Nm (k := 0) FNm T.toBi mNC mLN, bNm⟩⟩ : Lnk l.prog w K mg base "is_name" 1 ["value"] (spB isNameD)).up hn
  have LAs : ∀ n, 1 ≤ n → Lnk l.prog w K mg base "are_ascending" n ["names"] (spL 1000000 ascS) := fun n hn => (⟨⟨fAs, dAs, PySem.W.mg_of X G aAs, FAs.kp, ok_As (k := 0) FAs T.toBi, bAs⟩⟩ : Lnk l.prog w K mg base "are_ascending" 1 ["names"] (spL 1000000 ascS)).up hn
  have LSy : ∀ n, 2 ≤ n → Lnk l.prog w K mg base "are_symbols" n ["value", "least", "most"] (spSy) := fun n hn => (⟨⟨fSy, dSy, PySem.W.mg_of X G aSy, FSy.kp, ok_Sy FSy T.toBi (LNm 1 (by decide)) (LAs 1 (by decide)), bSy⟩⟩ : Lnk l.prog w K mg base "are_symbols" 2 ["value", "least", "most"] (spSy)).up hn
  have LPg : ∀ n, 3 ≤ n → Lnk l.prog w K mg base "is_program" n ["value"] (spB isProgramD) := fun n hn => (⟨⟨fPg, dPg, PySem.W.mg_of X G aPg, FPg.kp, ok_Pg FPg T.toBi (LSy 2 (by decide)) mMS, bPg⟩⟩ : Lnk l.prog w K mg base "is_program" 3 ["value"] (spB isProgramD)).up hn
  have LFrw : ∀ n, 1 ≤ n → Lnk l.prog w K mg base "format_row" n ["word", "names"] (spFrw K) := fun n hn => (⟨⟨fFrw, dFrw, PySem.W.mg_of X G aFrw, FFrw.kp, ok_Frw (k := 0) FFrw T, bFrw⟩⟩ : Lnk l.prog w K mg base "format_row" 1 ["word", "names"] (spFrw K)).up hn
  have LFmp : ∀ n, 2 ≤ n → Lnk l.prog w K mg base "format_program" n ["program"] (spFmp) := fun n hn => (⟨⟨fFmp, dFmp, PySem.W.mg_of X G aFmp, FFmp.kp, ok_Fmp FFmp T (LFrw 1 (by decide)), bFmp⟩⟩ : Lnk l.prog w K mg base "format_program" 2 ["program"] (spFmp)).up hn
  have LArn : ∀ n, 2 ≤ n → Lnk l.prog w K mg base "are_names" n ["values"] (spArn) := fun n hn => (⟨⟨fArn, dArn, PySem.W.mg_of X G aArn, FArn.kp, ok_Arn FArn T (LNm 1 (by decide)), bArn⟩⟩ : Lnk l.prog w K mg base "are_names" 2 ["values"] (spArn)).up hn
  have LIpr : ∀ n, 3 ≤ n → Lnk l.prog w K mg base "is_program_row" n ["row"] (spIpr) := fun n hn => (⟨⟨fIpr, dIpr, PySem.W.mg_of X G aIpr, FIpr.kp, ok_Ipr FIpr T (LArn 2 (by decide)), bIpr⟩⟩ : Lnk l.prog w K mg base "is_program_row" 3 ["row"] (spIpr)).up hn
  have LNbh : ∀ n, 1 ≤ n → Lnk l.prog w K mg base "names_behind" n ["rows", "word"] (spNbh) := fun n hn => (⟨⟨fNbh, dNbh, PySem.W.mg_of X G aNbh, FNbh.kp, ok_Nbh (k := 0) FNbh T, bNbh⟩⟩ : Lnk l.prog w K mg base "names_behind" 1 ["rows", "word"] (spNbh)).up hn
  have LWell : ∀ n, 1 ≤ n → Lnk l.prog w K mg base "_law_well" n ["_law_script", "_law_k"] (spWell K) := fun n hn => (⟨⟨fWell, dWell, PySem.W.mg_of X G aWell, FWell.kp, ok_well (k := 0) FWell T.len T.abs T.int, bWell⟩⟩ : Lnk l.prog w K mg base "_law_well" 1 ["_law_script", "_law_k"] (spWell K)).up hn
  have LDraw : ∀ n, 1 ≤ n → Lnk l.prog w K mg base "_law_draw" n ["_law_well_here", "_law_below"] (spDrw) := fun n hn => (⟨⟨fDraw, dDraw, PySem.W.mg_of X G aDraw, FDraw.kp, (ok_draw (k := 0) FDraw).imp drw_of, bDraw⟩⟩ : Lnk l.prog w K mg base "_law_draw" 1 ["_law_well_here", "_law_below"] (spDrw)).up hn
  have LPick : ∀ n, 2 ≤ n → Lnk l.prog w K mg base "_law_pick" n ["_law_well_here", "_law_some"] (spPick) := fun n hn => (⟨⟨fPick, dPick, PySem.W.mg_of X G aPick, FPick.kp, ok_Pick FPick T (LDraw 1 (by decide)), bPick⟩⟩ : Lnk l.prog w K mg base "_law_pick" 2 ["_law_well_here", "_law_some"] (spPick)).up hn
  have LNms : ∀ n, 3 ≤ n → Lnk l.prog w K mg base "_law_names" n ["_law_well_here", "_law_count", "_law_stems"] (spNms) := fun n hn => (⟨⟨fNms, dNms, PySem.W.mg_of X G aNms, FNms.kp, ok_Nms FNms T (LDraw 2 (by decide)) (LPick 2 (by decide)), bNms⟩⟩ : Lnk l.prog w K mg base "_law_names" 3 ["_law_well_here", "_law_count", "_law_stems"] (spNms)).up hn
  have LMix : ∀ n, 2 ≤ n → Lnk l.prog w K mg base "_law_mixed" n ["_law_well_here", "_law_some"] (spMix) := fun n hn => (⟨⟨fMix, dMix, PySem.W.mg_of X G aMix, FMix.kp, ok_Mix FMix T (LDraw 1 (by decide)), bMix⟩⟩ : Lnk l.prog w K mg base "_law_mixed" 2 ["_law_well_here", "_law_some"] (spMix)).up hn
  have LNds : ∀ n, 3 ≤ n → Lnk l.prog w K mg base "_law_needs" n ["_law_well_here", "_law_symbols", "_law_at", "_law_way"] (spNds) := fun n hn => (⟨⟨fNds, dNds, PySem.W.mg_of X G aNds, FNds.kp, ok_Nds FNds T (LDraw 2 (by decide)) (LPick 2 (by decide)), bNds⟩⟩ : Lnk l.prog w K mg base "_law_needs" 3 ["_law_well_here", "_law_symbols", "_law_at", "_law_way"] (spNds)).up hn
  have LArc : ∀ n, 4 ≤ n → Lnk l.prog w K mg base "_law_archives" n ["_law_well_here", "_law_most", "_law_rooms"] (spArc) := fun n hn => (⟨⟨fArc, dArc, PySem.W.mg_of X G aArc, FArc.kp, ok_Arc FArc T (LDraw 3 (by decide)) (LPick 3 (by decide)) (LNms 3 (by decide)) (LMix 3 (by decide)) (LNds 3 (by decide)), bArc⟩⟩ : Lnk l.prog w K mg base "_law_archives" 4 ["_law_well_here", "_law_most", "_law_rooms"] (spArc)).up hn
  have LAll : ∀ n, 1 ≤ n → Lnk l.prog w K mg base "_law_all_members" n ["_law_archives_here"] (spAll) := fun n hn => (⟨⟨fAll, dAll, PySem.W.mg_of X G aAll, FAll.kp, ok_All (k := 0) FAll T, bAll⟩⟩ : Lnk l.prog w K mg base "_law_all_members" 1 ["_law_archives_here"] (spAll)).up hn
  have LMkr : ∀ n, 2 ≤ n → Lnk l.prog w K mg base "_law_makers" n ["_law_archives_here"] (spMkr) := fun n hn => (⟨⟨fMkr, dMkr, PySem.W.mg_of X G aMkr, FMkr.kp, ok_Mkr FMkr T (LAll 1 (by decide)), bMkr⟩⟩ : Lnk l.prog w K mg base "_law_makers" 2 ["_law_archives_here"] (spMkr)).up hn
  have LPrg : ∀ n, 3 ≤ n → Lnk l.prog w K mg base "_law_program" n ["_law_well_here", "_law_archives_here"] (spPrg) := fun n hn => (⟨⟨fPrg, dPrg, PySem.W.mg_of X G aPrg, FPrg.kp, ok_Prg FPrg T (LPick 2 (by decide)) (LMkr 2 (by decide)), bPrg⟩⟩ : Lnk l.prog w K mg base "_law_program" 3 ["_law_well_here", "_law_archives_here"] (spPrg)).up hn
  have LLnm : ∀ n, 1 ≤ n → Lnk l.prog w K mg base "_law_is_name" n ["_law_said"] (spB isNameD) := fun n hn => (⟨⟨fLnm, dLnm, PySem.W.mg_of X G aLnm, FLnm.kp, ok_Lnm (k := 0) FLnm T, bLnm⟩⟩ : Lnk l.prog w K mg base "_law_is_name" 1 ["_law_said"] (spB isNameD)).up hn
  have LPtx : ∀ n, 1 ≤ n → Lnk l.prog w K mg base "_law_program_text" n ["_law_program_here"] (spFmp) := fun n hn => (⟨⟨fPtx, dPtx, PySem.W.mg_of X G aPtx, FPtx.kp, ok_Ptx (k := 0) FPtx T, bPtx⟩⟩ : Lnk l.prog w K mg base "_law_program_text" 1 ["_law_program_here"] (spFmp)).up hn
  have LLpr : ∀ n, 2 ≤ n → Lnk l.prog w K mg base "_law_program_row" n ["_law_row"] (spLpr) := fun n hn => (⟨⟨fLpr, dLpr, PySem.W.mg_of X G aLpr, FLpr.kp, ok_Lpr FLpr T (LLnm 1 (by decide)), bLpr⟩⟩ : Lnk l.prog w K mg base "_law_program_row" 2 ["_law_row"] (spLpr)).up hn
  have LLdu : ∀ n, 3 ≤ n → Lnk l.prog w K mg base "_law_due" n ["_law_said"] (spLdu) := fun n hn => (⟨⟨fLdu, dLdu, PySem.W.mg_of X G aLdu, FLdu.kp, ok_Ldu FLdu T (LLpr 2 (by decide)), bLdu⟩⟩ : Lnk l.prog w K mg base "_law_due" 3 ["_law_said"] (spLdu)).up hn
  have EK : ErrK K CE CL CP := ⟨hit, xP, eP, kve, kno⟩
  have LPiS : Lnk l.prog w K mg base "_law_pick" 11 ["_law_well_here", "_law_some"] spPiS := ⟨⟨fPick, dPick, PySem.W.mg_of X G aPick, FPick.kp, ok_PiS (k := 10) FPick T (LDraw 10 (by decide)), bPick⟩⟩
  have LBnt : Lnk l.prog w K mg base "_law_bent" 12 ["_law_well_here", "_law_said"] spBnt := ⟨⟨fBnt, dBnt, PySem.W.mg_of X G aBnt, FBnt.kp, ok_Bnt (k := 11) FBnt T (LDraw 11 (by decide)) (LPick 11 (by decide)) LPiS, bBnt⟩⟩
  have LRot : LnkX l.prog w K mg base "rows_of_text" 11 ["text", "has_form"] (spRot (fun r => (rowP r).isSome) fIpr CP) := ⟨⟨fRot, dRot, PySem.W.mg_of X G aRot, FRot.kp, ok_Rot (k := 10) FRot T (by decide) MP (ok_Ipr (k := 9) FIpr T (LArn 9 (by decide))) FIpr.kp bIpr, bRot⟩⟩
  have LPrp : LnkX l.prog w K mg base "parse_program" 12 ["text"] (spPrp CP) := ⟨⟨fPrp, dPrp, PySem.W.mg_of X G aPrp, FPrp.kp, ok_Prp (k := 11) FPrp T (by decide) MP (PySem.W.mg_of X G aIpr) LRot (LNbh 11 (by decide)) (LPg 11 (by decide)) (LFmp 11 (by decide)), bPrp⟩⟩
  exact ok_Law FL T hcd TB FPsd (PySem.W.mg_of X G aPsd) bPsd EK (PySem.W.mg_of X G aE) (PySem.W.mg_of X G aP) (PySem.W.mg_of X G aL) (PySem.W.mg_none_of X G m_VE) (LWell 12 (by decide)) (LDraw 12 (by decide)) (LArc 12 (by decide)) (LPrg 12 (by decide)) (LPtx 12 (by decide)) (LFmp 12 (by decide)) LBnt (LLdu 12 (by decide)) LPrp
end LK
open PySem PySem.W PyProof.Rows
set_option maxRecDepth 100000 in
set_option maxHeartbeats 0 in
theorem PySem.Challenge.cw_linkorder_k70_programs_as_text_holds : PySem.Challenge.rw_linkorder_k70_programs_as_text.Holds := by
  w_on; o_law; k_head; (case hw => w_witness2)
  k_fill
  refine LK.walk_goesT (l := PySem.Challenge.rw_linkorder_k70_programs_as_text) (n := 63) (k := 15) (x := "_law_script") (sp := fun w T => LK.spLawT _ T) rfl (by decide) rfl ⟨rfl, by decide, by decide⟩ (by decide +kernel) (fun p => by kernel_rfl) (fun w h Y => PySem.W.km_in_of Y) ?F (fun w H a T ns hl hT hS => ⟨a, ns, rfl, hT, hS, hl, fun _ => rfl⟩)
  case F =>
    intro w mg fa c T h KX G hmg hco
    refine' LK.all_mk KX G hmg hco ?cNC ?cLN ?cMS ?aP ?xP ?oP ?eP ?iP ?tP ?FP ?aE ?aL ?kno ?hit ?kve ?m_VE ?aNm ?FNm ?aAs ?FAs ?aSy ?FSy ?aPg ?FPg ?aFrw ?FFrw ?aFmp ?FFmp ?aRot ?FRot ?aArn ?FArn ?aIpr ?FIpr ?aNbh ?FNbh ?aPrp ?FPrp ?aWell ?FWell ?aDraw ?FDraw ?aPick ?FPick ?aNms ?FNms ?aMix ?FMix ?aNds ?FNds ?aArc ?FArc ?aAll ?FAll ?aMkr ?FMkr ?aPrg ?FPrg ?aLnm ?FLnm ?aPtx ?FPtx ?aLpr ?FLpr ?aLdu ?FLdu ?aBnt ?FBnt ?aPsd ?FPsd ?m_len ?m_isinstance ?m_all ?m_set ?m_tuple ?m_list ?m_sorted ?m_zip ?m_str ?m_range ?m_dict ?m_int ?m_repr ?m_any ?m_enumerate ?m_max ?m_min ?m_abs ?gLaw ?FLaw
    (case cNC => k_is)
    (case cLN => k_is)
    (case cMS => k_is)
    (case aP => k_is)
    (case xP => exact ⟨by k_is, by k_is, by k_is, by k_is, by k_is, by k_is, by k_is, by k_is⟩)
    (case oP => exact ⟨⟨_, _, _, _, _, _, _, _, _, _, _, _, _, _, _, by k_is, by decide +kernel⟩, by k_is, by k_is, by k_is, by k_is⟩)
    (case eP => exact ⟨by k_is, by k_is, by k_is, by k_is, by k_is⟩)
    (case iP => k_is)
    (case tP => k_is)
    (case FP => exact ⟨_, L2.fun_mk (by k_is) (by k_is) (by k_is)⟩)
    (case aE => k_is)
    (case aL => k_is)
    (case kno => kit_is)
    (case hit => kts_exm)
    (case kve => kit_is)
    (case m_VE => k_is)
    (case aNm => k_is)
    (case FNm => exact ⟨_, L2.fun_mk (by k_is) (by k_is) (by k_is)⟩)
    (case aAs => k_is)
    (case FAs => exact ⟨_, L2.fun_mk (by k_is) (by k_is) (by k_is)⟩)
    (case aSy => k_is)
    (case FSy => exact ⟨_, L2.fun_mk (by k_is) (by k_is) (by k_is)⟩)
    (case aPg => k_is)
    (case FPg => exact ⟨_, L2.fun_mk (by k_is) (by k_is) (by k_is)⟩)
    (case aFrw => k_is)
    (case FFrw => exact ⟨_, L2.fun_mk (by k_is) (by k_is) (by k_is)⟩)
    (case aFmp => k_is)
    (case FFmp => exact ⟨_, L2.fun_mk (by k_is) (by k_is) (by k_is)⟩)
    (case aRot => k_is)
    (case FRot => exact ⟨_, L2.fun_mk (by k_is) (by k_is) (by k_is)⟩)
    (case aArn => k_is)
    (case FArn => exact ⟨_, L2.fun_mk (by k_is) (by k_is) (by k_is)⟩)
    (case aIpr => k_is)
    (case FIpr => exact ⟨_, L2.fun_mk (by k_is) (by k_is) (by k_is)⟩)
    (case aNbh => k_is)
    (case FNbh => exact ⟨_, L2.fun_mk (by k_is) (by k_is) (by k_is)⟩)
    (case aPrp => k_is)
    (case FPrp => exact ⟨_, L2.fun_mk (by k_is) (by k_is) (by k_is)⟩)
    (case aWell => k_is)
    (case FWell => exact ⟨_, L2.fun_mk (by k_is) (by k_is) (by k_is)⟩)
    (case aDraw => k_is)
    (case FDraw => exact ⟨_, L2.fun_mk (by k_is) (by k_is) (by k_is)⟩)
    (case aPick => k_is)
    (case FPick => exact ⟨_, L2.fun_mk (by k_is) (by k_is) (by k_is)⟩)
    (case aNms => k_is)
    (case FNms => exact ⟨_, L2.fun_mk (by k_is) (by k_is) (by k_is)⟩)
    (case aMix => k_is)
    (case FMix => exact ⟨_, L2.fun_mk (by k_is) (by k_is) (by k_is)⟩)
    (case aNds => k_is)
    (case FNds => exact ⟨_, L2.fun_mk (by k_is) (by k_is) (by k_is)⟩)
    (case aArc => k_is)
    (case FArc => exact ⟨_, L2.fun_mk (by k_is) (by k_is) (by k_is)⟩)
    (case aAll => k_is)
    (case FAll => exact ⟨_, L2.fun_mk (by k_is) (by k_is) (by k_is)⟩)
    (case aMkr => k_is)
    (case FMkr => exact ⟨_, L2.fun_mk (by k_is) (by k_is) (by k_is)⟩)
    (case aPrg => k_is)
    (case FPrg => exact ⟨_, L2.fun_mk (by k_is) (by k_is) (by k_is)⟩)
    (case aLnm => k_is)
    (case FLnm => exact ⟨_, L2.fun_mk (by k_is) (by k_is) (by k_is)⟩)
    (case aPtx => k_is)
    (case FPtx => exact ⟨_, L2.fun_mk (by k_is) (by k_is) (by k_is)⟩)
    (case aLpr => k_is)
    (case FLpr => exact ⟨_, L2.fun_mk (by k_is) (by k_is) (by k_is)⟩)
    (case aLdu => k_is)
    (case FLdu => exact ⟨_, L2.fun_mk (by k_is) (by k_is) (by k_is)⟩)
    (case aBnt => k_is)
    (case FBnt => exact ⟨_, L2.fun_mk (by k_is) (by k_is) (by k_is)⟩)
    (case aPsd => k_is)
    (case FPsd => exact ⟨_, L2.fun_mk (by k_is) (by k_is) (by k_is)⟩)
    (case m_len => k_is)
    (case m_isinstance => k_is)
    (case m_all => k_is)
    (case m_set => k_is)
    (case m_tuple => k_is)
    (case m_list => k_is)
    (case m_sorted => k_is)
    (case m_zip => k_is)
    (case m_str => k_is)
    (case m_range => k_is)
    (case m_dict => k_is)
    (case m_int => k_is)
    (case m_repr => k_is)
    (case m_any => k_is)
    (case m_enumerate => k_is)
    (case m_max => k_is)
    (case m_min => k_is)
    (case m_abs => k_is)
    (case gLaw => k_is)
    (case FLaw => exact ⟨_, _, _, _, _, _, _, _, _, by k_is, by k_is, by k_is⟩)
