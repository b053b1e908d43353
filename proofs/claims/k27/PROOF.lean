import PyProof.Rows.All
import Wide.All
import OpenK.AllK
import Wide.FinOn
import HandS.ForMost
import HandS.Exc
import HandS.TryOnly
import HandS.ExcOwn
import HandS.WordsExc
import HandS.FStr
import HandS.IsInst
import HandS.SortInts
import HandS.RaiseMore
import PyProof.ReprRoads
import HandS.Dict
import KE.KDictWalk
import KE.KDictExact
import PyProof.Rows.StrIntSpec
import PyProof.ListStr
import PyProof.StrOps2
import HandS.Conv
import KE.GoesMore
import KE.GoesEnum
import HandS.Style
import PyProof.EqAt
import PyProof.EqKinds
import PyProof.TupleCall
import Open.SpecLaws
import KE.OsGo
import HandS.ForSpec
import HandS.ExcIs
import HandS.Set
import HandS.Strs
import PyProof.Rows.SetFrom
import HandS.TupAny
import HandS.Zip
import HandS.SetKeys
import HandS.Text
import HandS.Small
import HandS.Comp
import PyProof.Rows.SortShellAny
import HandS.SetBool
import HandS.TupSets
import PyProof.Rows.SeqMore
import KE.KSortTupG
import KE.DataEq
import PySem.Challenge.RW_risingsheets_k27_what_cuts_cost
set_option Elab.async false
set_option linter.all false
set_option maxRecDepth 100000
set_option maxHeartbeats 4000000

/-! ## Defs that run where no guard stands (so that repr of a list or tuple is known) -/
namespace Dl
open PySem PySem.Spec PyProof.Rows L2

structure FnG (P : Program) (w : World) (K : PySem.W.Frag) (mg : Str → Option Value) (base : Heap) (C : CXT) (k : Nat)
    (f : Addr) (fd : FuncData) (ps : List Str) (sp : Sp) : Prop where
  len : ∀ vs H Q E, sp vs H Q E → vs.length = ps.length
  run : ∀ (A : Around) (outer : List Env) (s : Shared) (H : Hp) (args : Args) (us : List Value) (vs : List V) (Q : VK) (E : XK),
    A.guards = some [] → Room k A → Env0 P w K mg base A outer s H → BindsTo s fd args (ps.zip us) → Vals vs us → sp vs H Q E →
    codeAny (model P w) A (.call (.ref f) args) (CR C outer P w H s Q E) s

section
variable {P : Program} {w : World} {K : PySem.W.Frag} {mg : Str → Option Value} {base : Heap} {C : CXT}

theorem FnG.of {k : Nat} {f : Addr} {fd : FuncData} {ps : List Str} {sp : Sp} (F : FnOk P w K mg base C k f fd ps sp) :
    FnG P w K mg base C k f fd ps sp :=
  ⟨F.len, fun A outer s H args us vs Q E _ => F.run A outer s H args us vs Q E⟩

theorem fun_okG {x qual : Str} {st : Stmt} {f : Addr} {fd : FuncData} {N ps : List Str} {k : Nat} {sp : Sp}
    (F : Fun K x qual st f fd) (S : FnScope N ps (defScope st)) (len : ∀ vs H Q E, sp vs H Q E → vs.length = ps.length)
    (hb : ∀ (cdv : Value) (A : Around) (outer : List Env) (s : Shared) (H : Hp) (vs : List V) (Q : VK) (E : XK),
      A.guards = some [] → Room k (A.deeper (envOfC qual (defScope st) s.heap.objs.size f cdv)) → sp vs H Q E →
      ∃ t, PSs (cxOf C P w K mg base N qual (defScope st) f cdv A outer s H E) (defBody st) t ∧
        t { nx := fun _ H' => Q .non H', rt := Q } (start N vs) H) :
    FnG P w K mg base C (k + 1) f fd ps sp := by
  obtain ⟨oc, od, kV, doc, pm, an, cdv, ct, osl, rfl, lk, hcd⟩ := F.ex
  constructor
  · exact len
  · intro A outer s H args us vs Q E hg room e0 bnd rel want
    have hlen := len _ _ _ _ want
    have stays : ∀ b o, base.get? b = some o → s.heap.get? b = some o := fun b o e => (e0.bs b o e).1
    have inK : K.In s.heap := e0.mod.kin.keeps stays
    apply codeAny_call_function room.depth (inK _ _ lk) rfl S.co S.gen rfl (PySem.W.codeRec_of inK hcd)
    apply bnd
    apply wpAny_newFunctionEnv_cells S.kind
    · rintro ⟨n, v⟩ hy
      have hp := S.par n (List.of_mem_zip hy).1
      cases hp with
      | inl q => exact Or.inl q
      | inr q => exact Or.inr ⟨q, PySem.W.cellsFrom_some _ _ _ (Or.inl q)⟩
    · intro env he s1 entered
      subst he
      constructor
      · exact (e0.mod.nolimit.keeps stays).keeps entered.toInCall.keep
      · apply codeAny_func
        obtain ⟨t, ht, hq⟩ := hb cdv A outer s H vs Q E hg (room.deeper _) want
        have J0 := inv_start (CX := C) (E := E) S room.hd e0 hlen rel entered
        apply wpAny_mono (ht.run [] s1 (start N vs) H _ J0 hq)
        · intro fl s' hs
          match fl, hs with
          | .ret u, ⟨v, _, H', J, rv, q⟩ => exact ⟨v, H', J.os, J.bare, J.base, J.hok, rv, q⟩
          | .next, ⟨_, H', J, q⟩ => exact ⟨V.non, H', J.os, J.bare, J.base, J.hok, rfl, q⟩
          | .brk, ⟨_, _, _, q⟩ => exact q.elim
          | .cont, ⟨_, _, _, q⟩ => exact q.elim
        · intro e s' hs
          exact hs

end

theorem fun_okG0 {P : Program} {w : World} {K : PySem.W.Frag} {mg : Str → Option Value} {base : Heap} {x qual : Str} {st : Stmt} {f : Addr} {fd : FuncData} {N ps : List Str} {k : Nat} {sp : Sp}
    (F : Fun K x qual st f fd) (S : FnScope N ps (defScope st)) (len : ∀ vs H Q E, sp vs H Q E → vs.length = ps.length)
    (hb : ∀ (cdv : Value) (A : Around) (outer : List Env) (s : Shared) (H : Hp) (vs : List V) (Q : VK) (E : XK),
      A.guards = some [] → Room k (A.deeper (envOfC qual (defScope st) s.heap.objs.size f cdv)) → sp vs H Q E →
      ∃ t, PSs (cxOf CX0 P w K mg base N qual (defScope st) f cdv A outer s H E).nox (defBody st) t ∧
        t { nx := fun _ H' => Q .non H', rt := Q } (start N vs) H) :
    FnG P w K mg base CX0 (k + 1) f fd ps sp :=
  fun_okG F S len fun cdv A outer s H vs Q E hg hr h => by
    obtain ⟨t, ht, q⟩ := hb cdv A outer s H vs Q E hg hr h
    exact ⟨t, ht.nox, q⟩

section
variable {X : Cx} {C : CXT} {k : Nat} {f : Addr} {fd : FuncData} {ps : List Str} {sp : Sp} {ds : List Value} {dvs : List V} {E : XK}
  {x : Str} {p pos : Pos} {e : Expr} {es : List Expr} {t : TA}

theorem pe_callG (hgd : X.A.guards = some []) (F : FnG X.prog X.w X.K X.mg X.base C k f fd ps sp) (hr : Room k X.A) (hg : Gl X x)
    (hm : X.mg x = some (.ref f)) (hk : PySem.W.keepIn X.K (.ref f) = true) (hb : Binds X.K fd ps ds) (hd : Vals dvs ds)
    (hx : Passes C X E) (ha : PA X (e :: es) t) (hdb : (x == ("__debug__" : Str)) = false := by decide)
    (he : starEach (e :: es) X.env = (false, eval e X.env) :: starEach es X.env := by rfl)
    (hpl : (backTo pos (starEach es X.env)).any (·.1) = false := by rfl) :
    PE X (.Call (.Name x p) (e :: es) [] pos) (tCall sp dvs E t) := by
  constructor
  intro pins s σ H Q I h
  apply wpAny_Call_Name_kw (ld_glob I hg hm ?_ hdb)
  apply PySem.W.callWith_K (h₀ := X.base) I.ok.mod.kin hk (thn (ha.run pos pins s σ H _ I h) ?_) he hpl
  rintro us s1 ⟨vs, H1, I1, r, q⟩
  refine ⟨I1.kIn, ?_⟩
  have rr : Vals (vs ++ dvs) (us ++ ds) := r.append hd
  have hl : (us ++ ds).length = ps.length := rr.length.symm.trans (F.len _ _ _ _ q)
  apply wpAny_call
  apply codeAny_mono (F.run X.A X.stack s1 H1 ⟨us, []⟩ (us ++ ds) (vs ++ dvs) Q E hgd hr I1.env0 (hb s1 us I1.kIn hl) rr q)
  intro res s' hq
  match res, hq with
  | .error er, hq => exact hx pins σ H1 s1 er s' I1 hq
  | .ok (.ret u), hq => exact I1.after hq
  | .ok .next, hq => exact hq.elim
  | .ok .brk, hq => exact hq.elim
  | .ok .cont, hq => exact hq.elim
end

/-! ### the law's own head -/
section
variable {P : Program} {w : World} {K : PySem.W.Frag} {mg mb : Str → Option Value} {C : CXT} {k : Nat} {fa a : Addr} {fd : FuncData}
  {x : Str} {sp : Sp} {s1 : Shared} {vs : List Value} {ns : List Int}

/-- the abstract heap at the law's entry: the script, locked, if it is none of the module's own -/
theorem headG_core (KX : K.In s1.heap) (hns : s1.heap.Ns mainGlobals mg) (hb : s1.heap.Ns builtinsNs mb)
    (hbb : ∀ x : Str, x ≠ "__name__" → mb x = bootBuiltins x) (hlim : s1.heap.NoLimit) (hg : s1.gens = #[])
    (ha : s1.heap.get? a = some { cls := .type "list", data := .seq vs.toArray }) (hr : Room k callerA)
    (hdg : s1.heap.NoDigits)
    (F : ∀ base : Heap, K.In base → base.Ns mainGlobals mg → base.NoDigits → FnG P w K mg base C k fa fd [x] sp)
    (hbind : ∀ (s : Shared) (u : Value), BindsTo s fd ⟨[u], []⟩ [(x, u)])
    (hC : ∀ H e s', C [] H s1 (fun _ _ _ => False) e s' → False)
    (H : Hp) (hO : Only H) (hsp : sp [.ref a] H (fun v _ => v = .bl true) fun _ _ _ => False)
    (hok : HOk P w H s1.heap) (hA : ∀ b, H b ≠ none → b = a ∧ K.lookup b = none) :
    codeAny (model P w) callerA (.call (.ref fa) ⟨[.ref a], []⟩)
      (fun r s' => r = .ok (.ret (.bool true)) ∧ OldK s1.heap s'.heap ∧ s'.os = s1.os ∧ AllBare s'.gens) s1 := by
  have free : ∀ {b : Addr}, (H b ≠ none → False) → H b = none := fun {b} z => by
    cases q : H b with
    | none => rfl
    | some u => exact (z (by rw [q]; exact fun y => nomatch y)).elim
  have nsK : ∀ {b : Addr} {m : Str → Option Value}, s1.heap.Ns b m → (hidT s1.heap H).Ns b m := fun {b m} hm => by
    obtain ⟨o, es, ep, e, d, r⟩ := hm
    refine ⟨o, es, ep, hidT_get e (free fun z => ?_), d, r⟩
    obtain ⟨e1, _⟩ := hA b z
    subst e1
    rw [ha] at e
    cases e
    cases (show Data.seq vs.toArray _ = Data.dict es ep from d)
  have hKb : K.In (hidT s1.heap H) := fun b o e => hidT_get (KX b o e) (free fun z => by
    rw [(hA b z).2] at e
    cases e)
  obtain ⟨mc, l1, l2⟩ := hlim
  have hM : Mod K mg (hidT s1.heap H) := ⟨hKb, nsK hns, ⟨mb, nsK hb, hbb⟩, ⟨mc, nsK l1, l2⟩⟩
  have e0 : Env0 P w K mg (hidT s1.heap H) callerA [] s1 H := by
    refine ⟨rfl, hM, fun b o e => of_hidT e, Nat.le_of_eq (hidT_size _ _), trivial, fun b hb => ?_, hok, .of_eq hg⟩
    cases hb
  obtain ⟨md, g1, g2⟩ := hdg
  have run := (F _ hKb (nsK hns) ⟨md, nsK g1, g2⟩).run callerA [] s1 H ⟨[.ref a], []⟩ [.ref a] [.ref a] _ _ rfl hr e0 (hbind s1 (.ref a)) (.cons rfl .nil) hsp
  refine codeAny_mono run fun r s' h => ?_
  match r, h with
  | .error e, h => exact (hC H e s' h).elim
  | .ok .next, h => exact h.elim
  | .ok .brk, h => exact h.elim
  | .ok .cont, h => exact h.elim
  | .ok (.ret u), h =>
    obtain ⟨v, H', os, bare, un, hok', rv, q⟩ := h
    have q1 : v = .bl true := q
    subst q1
    have q2 : u = Value.bool true := rv
    subst q2
    refine ⟨rfl, OldK.of_keep fun b o e => ?_, os, bare⟩
    cases hO b with
    | inl z => exact un.keep b o e z (fun y => by cases y) (fun y => by cases y)
    | inr z =>
      obtain ⟨ob, xs, z⟩ := z
      have e1 := (hok b _ z).1
      rw [e] at e1
      cases e1
      exact (hok' b _ (un.frzs b o _ z)).1

theorem law_callG (KX : K.In s1.heap) (hns : s1.heap.Ns mainGlobals mg) (hb : s1.heap.Ns builtinsNs mb)
    (hbb : ∀ x : Str, x ≠ "__name__" → mb x = bootBuiltins x) (hlim : s1.heap.NoLimit) (hg : s1.gens = #[])
    (ha : s1.heap.get? a = some { cls := .type "list", data := .seq vs.toArray }) (hi : IntsAre vs ns) (hl : ns.length ≤ sizeLine)
    (hr : Room k callerA)
    (hdg : s1.heap.NoDigits)
    (F : ∀ base : Heap, K.In base → base.Ns mainGlobals mg → base.NoDigits → FnG P w K mg base C k fa fd [x] sp)
    (hbind : ∀ (s : Shared) (u : Value), BindsTo s fd ⟨[u], []⟩ [(x, u)])
    (hsp : ∀ H : Hp, Only H → SqL K H a (ns.map V.int) → sp [.ref a] H (fun v _ => v = .bl true) fun _ _ _ => False)
    (hC : ∀ H e s', C [] H s1 (fun _ _ _ => False) e s' → False) :
    codeAny (model P w) callerA (.call (.ref fa) ⟨[.ref a], []⟩)
      (fun r s' => r = .ok (.ret (.bool true)) ∧ OldK s1.heap s'.heap ∧ s'.os = s1.os ∧ AllBare s'.gens) s1 := by
  have core := headG_core KX hns hb hbb hlim hg ha hr hdg F hbind hC
  cases hk : K.lookup a with
  | some o =>
    have e := KX a o hk
    rw [ha] at e
    cases e
    let H0 : Hp := fun _ => none
    have O0 : Only H0 := fun _ => Or.inl rfl
    refine core H0 O0 (hsp H0 O0 (Or.inr ⟨_, vs.toArray, _, hk, rfl, rfl, rfl, ?_, ?_⟩)) (fun b u z => nomatch z) (fun b z => (z rfl).elim)
    · rw [List.size_toArray, hi.length]
      exact hl
    · have rv := vals_ints hi
      simpa using rv
  | none =>
    let scr : HO := .frz { cls := .type "list", data := .seq vs.toArray } (.lst (ns.map V.int))
    let H1 : Hp := fun b => if b = a then some scr else none
    have H1a : H1 a = some scr := if_pos rfl
    have H1n : ∀ b, b ≠ a → H1 b = none := fun b h => if_neg h
    have O1 : Only H1 := fun b => by
      by_cases h : b = a
      · subst h
        exact Or.inr ⟨_, _, H1a⟩
      · exact Or.inl (H1n b h)
    refine core H1 O1 (hsp H1 O1 (Or.inl (Or.inr ⟨_, H1a⟩))) (fun b u z => ?_) (fun b z => ?_)
    · by_cases h : b = a
      · subst h
        rw [H1a] at z
        cases z
        refine ⟨ha, ?_, vs, _, vals_ints hi, ha⟩
        rw [List.length_map]
        exact hl
      · rw [H1n b h] at z
        cases z
    · by_cases h : b = a
      · subst h
        exact ⟨rfl, hk⟩
      · exact (z (H1n b h)).elim
end

theorem walk_ofG {l : PySem.W.OpenLaw} {n k : Nat} {q : Program} {loose : List Str} {XP : (Str → Option Value) → Heap → Prop}
    {YP : World → Heap → Prop} {d : DefRec} {K : Params → PySem.W.Frag} {C : World → CXT} {sp : World → Sp} {x : Str}
    (hn : l.most = some n) (hn2 : n ≤ sizeLine) (hdf : d.params.defaults = []) (hr : Room k callerA)
    (hY : ∀ (w : World) (h : Heap), YP w h → (K w.params).In h)
    (F : ∀ (w : World) (mg : Str → Option Value) (fa : Addr) (h : Heap), (K w.params).In h → h.Ns mainGlobals mg → mg d.name = some (.ref fa) →
      ∃ fd : FuncData, (∀ (s : Shared) (u : Value), BindsTo s fd ⟨[u], []⟩ [(x, u)]) ∧
        ∀ base : Heap, (K w.params).In base → base.Ns mainGlobals mg → base.NoDigits → FnG l.prog w (K w.params) mg base (C w) k fa fd [x] (sp w))
    (hsp : ∀ (w : World) (H : Hp) (a : Addr) (ns : List Int), ns.length ≤ n → Only H → SqL (K w.params) H a (ns.map V.int) →
      sp w [.ref a] H (fun v _ => v = .bl true) fun _ _ _ => False)
    (hC : ∀ (w : World) (H : Hp) (s : Shared) (e : Value) (s' : Shared), C w [] H s (fun _ _ _ => False) e s' → False) :
    PySem.W.WalkO q loose XP YP l.row.toRowW d [] (fun f vs => PySem.call f vs) := by
  apply Att.attach_call hn hdf
  intro w s0 s1 mg mb fa o pm cd doc a vs ns G Y ho hd hcd hmg hobj hints hlen hg
  have KX := hY w _ Y
  obtain ⟨fd, hb, hF⟩ := F w mg fa _ KX G.T.g hmg
  exact law_callG KX G.T.g G.T.b G.T.builtins G.T.nolimit hg hobj hints (Nat.le_trans hlen hn2) hr G.T.nodigits hF hb
    (fun H hO hS => hsp w H a ns hlen hO hS) (fun H e s' => hC w H s1 e s')
end Dl

/-! ## Dicts, the empty one of either kind; keys that are any tuples that stand -/
namespace Dl
open PySem PySem.Spec PyProof.Rows L2

def RdK (H : Hp) (a : Addr) (kvs : List (Key × V)) : Prop := Rd H a (.dK kvs) ∨ (kvs = [] ∧ Rd H a (.dT []))
def RdT (H : Hp) (a : Addr) (kvs : List (List Key × V)) : Prop := Rd H a (.dT kvs) ∨ (kvs = [] ∧ Rd H a (.dK []))
theorem RdK.t0 {H : Hp} {a : Addr} (h : RdK H a []) : RdT H a [] := h.elim (fun z => .inr ⟨rfl, z⟩) fun z => .inl z.2
theorem RdT.k0 {H : Hp} {a : Addr} (h : RdT H a []) : RdK H a [] := h.elim (fun z => .inr ⟨rfl, z⟩) fun z => .inl z.2

/-- a dict that stands still as data: it is locked -/
def FzK (H : Hp) (a : Addr) (kvs : List (Key × V)) : Prop := (∃ o, H a = some (.frz o (.dK kvs))) ∨ (kvs = [] ∧ ∃ o, H a = some (.frz o (.dT [])))
def FzT (H : Hp) (a : Addr) (kvs : List (List Key × V)) : Prop := (∃ o, H a = some (.frz o (.dT kvs))) ∨ (kvs = [] ∧ ∃ o, H a = some (.frz o (.dK [])))
theorem FzK.rd {H : Hp} {a : Addr} {kvs : List (Key × V)} (h : FzK H a kvs) : RdK H a kvs := by
  rcases h with ⟨o, h⟩ | ⟨rfl, o, h⟩
  · exact .inl (.inr ⟨o, h⟩)
  · exact .inr ⟨rfl, .inr ⟨o, h⟩⟩
theorem FzT.rd {H : Hp} {a : Addr} {kvs : List (List Key × V)} (h : FzT H a kvs) : RdT H a kvs := by
  rcases h with ⟨o, h⟩ | ⟨rfl, o, h⟩
  · exact .inl (.inr ⟨o, h⟩)
  · exact .inr ⟨rfl, .inr ⟨o, h⟩⟩
theorem FzK.t0 {H : Hp} {a : Addr} (h : FzK H a []) : FzT H a [] := h.elim (fun z => .inr ⟨rfl, z⟩) fun z => .inl z.2
theorem FzT.k0 {H : Hp} {a : Addr} (h : FzT H a []) : FzK H a [] := h.elim (fun z => .inr ⟨rfl, z⟩) fun z => .inl z.2
/-- the dict (the list) in the slot i is locked from now on -/
def tFrz (i : Nat) (t : TS) : TS := fun D σ H => ∃ d u, σ[i]? = some (some (.ref d)) ∧ H d = some u ∧ Mut (some u) ∧ ∀ od, t D σ (upd H d (.frz od u))
/-- {} as data: it is locked at once -/
def tDNewF : TE := fun σ H Q => ∀ p, H p = none → ∀ od, Q (.ref p) (upd H p (.frz od (.dK [])))
section
variable {X : Cx}
theorem ps_frz {i : Nat} {st : Stmt} {t : TS} (h : PS X st t) : PS X st (tFrz i t) := by
  refine ⟨fun pins s σ H D I hw => ?_⟩
  obtain ⟨d, u, _, hd, mu, hw⟩ := hw
  obtain ⟨od, I1⟩ := I.lock hd mu
  exact h.run pins s σ _ _ I1 (hw od)
theorem pe_lkNew {e : Expr} (h : PE X e tDNewK) : PE X e tDNewF := by
  refine ⟨fun pins s σ H Q I hw => ?_⟩
  refine thn (h.run pins s σ H (fun v H1 => ∃ p, v = .ref p ∧ H p = none ∧ H1 = upd H p (.dK [])) I fun p hp => ⟨p, rfl, hp, rfl⟩) fun v s1 ⟨x, H1, I1, r, p, ex, hp, eh⟩ => ?_
  subst ex eh
  obtain ⟨od, I2⟩ := I1.lock (d := p) upd_same trivial
  rw [upd_upd] at I2
  exact ⟨_, _, I2, r, hw p hp od⟩
end
section
variable {P : Program} {w : World} {H : Hp} {h : Heap} {a : Addr}
theorem dk_of_t0 (ok : HOk P w H h) (e : Rd H a (.dT [])) : (a == sysModules) = false ∧ h.DictOf (mixKind P w) a [] := by
  obtain ⟨_, y, xs, r, o, es, ep, h1, h2, h3, h4, h5⟩ := (show ObjOk P w H h a (.dT []) from rd_of ok e)
  cases r
  have e0 : es.toList = [] := h4
  refine ⟨y, o, es, ep, h1, h2, h3, ?_, ?_, .nil⟩
  · intro i en
    have : i ∈ es.toList := Array.mem_toList_iff.mpr en
    rw [e0] at this
    cases this
  · rw [e0]
    exact .nil
theorem dt_of_k0 (ok : HOk P w H h) (e : Rd H a (.dK [])) : (a == sysModules) = false ∧ h.DictOfH (tupleKind (mixKind P w)) a [] := by
  obtain ⟨_, y, vs, r, o, es, ep, h1, h2, h3, h4, h5, h6⟩ := (show ObjOk P w H h a (.dK []) from rd_of ok e)
  cases r
  refine ⟨y, o, es, ep, h1, h2, h3, ?_, (fun x hx => by cases hx), List.Pairwise.nil⟩
  generalize es.toList = l at h5 ⊢
  cases h5
  rfl
theorem dkG_rd {kvs : List (Key × V)} (ok : HOk P w H h) (e : RdK H a kvs) : kvs.length ≤ sizeLine ∧ (a == sysModules) = false ∧ ∃ vs, KV kvs vs ∧ h.DictOf (mixKind P w) a vs := by
  rcases e with e | ⟨rfl, e⟩
  · exact dk_rd ok e
  · obtain ⟨h1, h2⟩ := dk_of_t0 ok e
    exact ⟨Nat.zero_le _, h1, [], .nil, h2⟩
theorem dtG_rd {kvs : List (List Key × V)} (ok : HOk P w H h) (e : RdT H a kvs) : kvs.length ≤ sizeLine ∧ (a == sysModules) = false ∧ ∃ xs, KT H kvs xs ∧ h.DictOfH (tupleKind (mixKind P w)) a xs := by
  rcases e with e | ⟨rfl, e⟩
  · exact dt_rd ok e
  · obtain ⟨h1, h2⟩ := dt_of_k0 ok e
    exact ⟨Nat.zero_le _, h1, [], .nil, h2⟩
end
/-- what the dict at a holds at the key y -/
def DGetG (K : PySem.W.Frag) (H : Hp) (a : Addr) (y : V) (r : Option V) : Prop :=
  (∃ kvs k, RdK H a kvs ∧ y = kV k ∧ r = valV kvs k) ∨ ∃ kvs k b, RdT H a kvs ∧ y = .ref b ∧ SqT K H b (k.map kV) ∧ r = valV kvs k
def IsDG (H : Hp) (a : Addr) : Prop := (∃ kvs, RdK H a kvs) ∨ ∃ kvs, RdT H a kvs
section
variable {X : Cx} {pins : List (Addr × Obj)} {σ : L2.St} {H : Hp} {s : Shared} {a : Addr} {y v d : V} {u r : Value} {o : Option V} {A : Around} {E : Value → Shared → Prop}
theorem key_ofT (I : Inv X pins σ H s) {b : Addr} {ks : List Key} (e : SqT X.K H b (ks.map kV)) : (tupleKind (mixKind X.prog X.w)).is s.heap ks b := by
  obtain ⟨its, r, ⟨o, h1, h2, n, h3⟩, _⟩ := I.tuple e
  exact ⟨o, its.toArray, n, h1, h2, h3, by simpa using items_are r⟩
theorem dG_getItem {Q : Value → Shared → Prop} (hu : A.units + 1 < cLine) (I : Inv X pins σ H s) (g : DGetG X.K H a y (some v)) (ry : RelV y u) (h : ∀ w' s', Inv X pins σ H s' → RelV v w' → Q w' s') :
    wpAny (model X.prog X.w) A (getItem (.ref a) u) Q E s := by
  rcases g with ⟨kvs, k, e, ey, l⟩ | ⟨kvs, k, b, e, ey, eb, l⟩
  · subst ey
    obtain ⟨z, hd, vs, rel, dd⟩ := dkG_rd I.hok e
    obtain ⟨w', hw, rw'⟩ := RelO.some_of (v := v) (o := valueAt vs k) (by rw [l]; exact rel.val k)
    exact wpAny_getItem_of (kV_is ry) dd.mapOf hw (h w' _ (I.tok _) rw')
  · subst ey
    cases (show u = Value.ref b from ry)
    obtain ⟨z, hd, xs, rel, dd⟩ := dtG_rd I.hok e
    obtain ⟨w', hw, rw'⟩ := RelO.some_of (v := v) (o := (atKey xs k).map (·.2)) (by rw [l]; exact rel.val k)
    obtain ⟨p, hp, hp2⟩ := Option.map_eq_some_iff.mp hw
    refine wpAny_getItem_heap (tupleKind_room_in1 hu) (key_ofT I eb) dd hp ?_
    rw [hp2]
    exact h w' _ (I.tok _) rw'
theorem dG_in {Q : Value → Shared → Prop} (hu : A.units + 1 < cLine) (I : Inv X pins σ H s) (g : DGetG X.K H a y o) (ry : RelV y u) (h : ∀ s', Inv X pins σ H s' → Q (.bool o.isSome) s') :
    wpAny (model X.prog X.w) A (compareOp .In u (.ref a)) Q E s := by
  rcases g with ⟨kvs, k, e, ey, l⟩ | ⟨kvs, k, b, e, ey, eb, l⟩
  · subst ey
    obtain ⟨z, hd, vs, rel, dd⟩ := dkG_rd I.hok e
    refine wpAny_in_of (kV_is ry) hd dd.mapOf ?_
    rw [← (rel.val k).isSome_eq, ← l]
    exact h _ (I.tok _)
  · subst ey
    cases (show u = Value.ref b from ry)
    obtain ⟨z, hd, xs, rel, dd⟩ := dtG_rd I.hok e
    refine wpAny_in_heap (tupleKind_room_in1 hu) (key_ofT I eb) hd dd ?_
    have q := (rel.val k).isSome_eq
    rw [Option.isSome_map] at q
    rw [← q, ← l]
    exact h _ (I.tok _)
theorem dG_notIn {Q : Value → Shared → Prop} (hu : A.units + 1 < cLine) (I : Inv X pins σ H s) (g : DGetG X.K H a y o) (ry : RelV y u) (h : ∀ s', Inv X pins σ H s' → Q (.bool (!o.isSome)) s') :
    wpAny (model X.prog X.w) A (compareOp .NotIn u (.ref a)) Q E s := by
  rcases g with ⟨kvs, k, e, ey, l⟩ | ⟨kvs, k, b, e, ey, eb, l⟩
  · subst ey
    obtain ⟨z, hd, vs, rel, dd⟩ := dkG_rd I.hok e
    refine wpAny_notIn_of (kV_is ry) hd dd.mapOf ?_
    rw [← (rel.val k).isSome_eq, ← l]
    exact h _ (I.tok _)
  · subst ey
    cases (show u = Value.ref b from ry)
    obtain ⟨z, hd, xs, rel, dd⟩ := dtG_rd I.hok e
    refine wpAny_notIn_heap (tupleKind_room_in1 hu) (key_ofT I eb) hd dd ?_
    have q := (rel.val k).isSome_eq
    rw [Option.isSome_map] at q
    rw [← q, ← l]
    exact h _ (I.tok _)
theorem isDG_at (I : Inv X pins σ H s) (d : IsDG H a) :
    s.TypeIs (.ref a) "dict" ∧ (∀ b, Value.ref a = .ref b → ∃ ob, s.heap.get? b = some ob ∧ ob.dict = none) ∧ (a == sysModules) = false := by
  rcases d with ⟨kvs, e | ⟨_, e⟩⟩ | ⟨kvs, e | ⟨_, e⟩⟩
  · exact isD_at I (.inl ⟨_, e⟩)
  · exact isD_at I (.inr ⟨_, e⟩)
  · exact isD_at I (.inr ⟨_, e⟩)
  · exact isD_at I (.inl ⟨_, e⟩)
theorem dG_get2 {Q : Value → Shared → Prop} (hu : A.units + 1 < cLine) (I : Inv X pins σ H s) (g : DGetG X.K H a y o) (ry : RelV y u) (rd : RelV d r) (h : ∀ w' s', Inv X pins σ H s' → RelV (o.getD d) w' → Q w' s') :
    wpAny (model X.prog X.w) A (call (.builtin "dict.get") [.ref a, u, r]) Q E s := by
  rcases g with ⟨kvs, k, e, ey, l⟩ | ⟨kvs, k, b, e, ey, eb, l⟩
  · subst ey
    obtain ⟨z, hd, vs, rel, dd⟩ := dkG_rd I.hok e
    refine call_meetsIn PySem.F.slot_dict_get dd.typeIs PySem.F.entry_dict_get (PySem.F.args_dict_get_3 _ _ _) (meets_dict_get_default (mixKind X.prog X.w) a (kV_is ry) hd r) ⟨_, dd.mapOf, h _ _ (I.tok _) ?_⟩
    rw [l]
    exact (rel.val k).getD rd
  · subst ey
    cases (show u = Value.ref b from ry)
    obtain ⟨z, hd, xs, rel, dd⟩ := dtG_rd I.hok e
    refine call_meetsIn PySem.F.slot_dict_get dd.typeIs PySem.F.entry_dict_get (PySem.F.args_dict_get_3 _ _ _) (meetsH_dict_get_default (tupleKind (mixKind X.prog X.w)) a b hd r) ⟨tupleKind_room_in1 hu, k, xs, key_ofT I eb, dd, h _ _ (I.tok _) ?_⟩
    rw [l]
    exact (rel.val k).getD rd
theorem dG_get1 {Q : Value → Shared → Prop} (hu : A.units + 1 < cLine) (I : Inv X pins σ H s) (g : DGetG X.K H a y o) (ry : RelV y u) (h : ∀ w' s', Inv X pins σ H s' → RelV (o.getD .non) w' → Q w' s') :
    wpAny (model X.prog X.w) A (call (.builtin "dict.get") [.ref a, u]) Q E s := by
  rcases g with ⟨kvs, k, e, ey, l⟩ | ⟨kvs, k, b, e, ey, eb, l⟩
  · subst ey
    obtain ⟨z, hd, vs, rel, dd⟩ := dkG_rd I.hok e
    refine call_meetsIn PySem.F.slot_dict_get dd.typeIs PySem.F.entry_dict_get (PySem.F.args_dict_get_2 _ _) (meets_dict_get (mixKind X.prog X.w) a (kV_is ry) hd) ⟨_, dd.mapOf, h _ _ (I.tok _) ?_⟩
    rw [l]
    exact (rel.val k).getD rfl
  · subst ey
    cases (show u = Value.ref b from ry)
    obtain ⟨z, hd, xs, rel, dd⟩ := dtG_rd I.hok e
    refine call_meetsIn PySem.F.slot_dict_get dd.typeIs PySem.F.entry_dict_get (PySem.F.args_dict_get_2 _ _) (meetsH_dict_get (tupleKind (mixKind X.prog X.w)) a b hd) ⟨tupleKind_room_in1 hu, k, xs, key_ofT I eb, dd, h _ _ (I.tok _) ?_⟩
    rw [l]
    exact (rel.val k).getD rfl
end
def tDGetG (K : PySem.W.Frag) (td ty : TE) : TE := fun σ H Q => td σ H fun x H1 => ty σ H1 fun y H2 => ∃ a v, x = .ref a ∧ DGetG K H2 a y (some v) ∧ Q v H2
def tDInG (K : PySem.W.Frag) (ty td : TE) : TE := fun σ H Q => ty σ H fun y H1 => td σ H1 fun x H2 => ∃ a o, x = .ref a ∧ DGetG K H2 a y o ∧ Q (.bl o.isSome) H2
def tDNotInG (K : PySem.W.Frag) (ty td : TE) : TE := fun σ H Q => ty σ H fun y H1 => td σ H1 fun x H2 => ∃ a o, x = .ref a ∧ DGetG K H2 a y o ∧ Q (.bl (!o.isSome)) H2
def tDGetG2 (K : PySem.W.Frag) (td ty tx : TE) : TE := fun σ H Q => td σ H fun x H1 => ∃ a, x = .ref a ∧ IsDG H1 a ∧ ty σ H1 fun y H2 => tx σ H2 fun z H3 => ∃ o, DGetG K H3 a y o ∧ Q (o.getD z) H3
section
variable {X : Cx} {o i e f : Expr} {apos cpos pos : Pos} {td ty tx : TE}
theorem pe_dgetG (hu : X.A.units + 1 < cLine) (ho : PE X o td) (hi : PE X i ty) (hs : NoSl i) : PE X (.Subscript o i pos) (tDGetG X.K td ty) := by
  refine ⟨fun pins s σ H Q I h => ?_⟩
  refine subD_of PySem.F.slot_dict_getitem.lookup hs (thn (ho.run pins s σ H _ I h) fun u s1 ⟨x, H1, I1, rx, q1⟩ => thn (hi.run pins s1 σ H1 _ I1 q1) fun iv s2 ⟨y, H2, I2, ry, a, v, ex, g, q2⟩ => ?_)
  subst ex
  obtain rfl : u = Value.ref a := rx
  have ht : s2.TypeIs (.ref a) "dict" := by
    rcases g with ⟨kvs, k, e, _⟩ | ⟨kvs, k, b, e, _⟩
    · exact (isDG_at I2 (.inl ⟨_, e⟩)).1
    · exact (isDG_at I2 (.inr ⟨_, e⟩)).1
  exact ⟨ht, dG_getItem hu I2 g ry fun w' s3 I3 rw' => ⟨v, H2, I3, rw', q2⟩⟩
theorem pc_dinG (hu : X.A.units + 1 < cLine) (hi : PE X i ty) (ho : PE X o td) : PC X .In i o (tDInG X.K ty td) := by
  refine ⟨fun pins s σ H Q I h => ?_⟩
  refine thn (hi.run pins s σ H _ I h) fun iv s1 ⟨y, H1, I1, ry, q1⟩ => thn (ho.run pins s1 σ H1 _ I1 q1) fun u s2 ⟨x, H2, I2, rx, a, ov, ex, g, q2⟩ => ?_
  subst ex
  obtain rfl : u = Value.ref a := rx
  exact dG_in hu I2 g ry fun s3 I3 => ⟨.bl ov.isSome, H2, I3, rfl, q2⟩
theorem pc_dnotinG (hu : X.A.units + 1 < cLine) (hi : PE X i ty) (ho : PE X o td) : PC X .NotIn i o (tDNotInG X.K ty td) := by
  refine ⟨fun pins s σ H Q I h => ?_⟩
  refine thn (hi.run pins s σ H _ I h) fun iv s1 ⟨y, H1, I1, ry, q1⟩ => thn (ho.run pins s1 σ H1 _ I1 q1) fun u s2 ⟨x, H2, I2, rx, a, ov, ex, g, q2⟩ => ?_
  subst ex
  obtain rfl : u = Value.ref a := rx
  exact dG_notIn hu I2 g ry fun s3 I3 => ⟨.bl (!ov.isSome), H2, I3, rfl, q2⟩
theorem pe_dgetG2 (hu : X.A.units + 1 < cLine) (ho : PE X o td) (he : PE X e ty) (hf : PE X f tx) (m : M2 X o "get" apos e f cpos) : PE X (.Call (.Attribute o "get" apos) [e, f] [] cpos) (tDGetG2 X.K td ty tx) := by
  refine ⟨fun pins s σ H Q I h => ?_⟩
  refine wpAny_Call_method m.base m.few m.line PySem.F.plainAttrs_dict PySem.F.slot_dict_get PySem.F.type_dict_get (thn (ho.run pins s σ H _ I h) fun u s1 ⟨x, H1, I1, rx, a, ex, d, q1⟩ => ?_)
  subst ex
  obtain rfl : u = Value.ref a := rx
  obtain ⟨t1, t2, _⟩ := isDG_at I1 d
  refine ⟨t1, t2, ?_⟩
  rw [m.trees]
  refine Calls.callWith_builtin rfl (Calls.evalArgs_plain (Calls.spliced_cons (thn (he.run pins s1 σ H1 _ I1 q1) fun iv s2 ⟨y, H2, I2, ry, q2⟩ =>
    Calls.spliced_cons (thn (hf.run pins s2 σ H2 _ I2 q2) fun fv s3 ⟨z, H3, I3, rz, ov, g, q3⟩ => Calls.spliced_nil ?_))))
  exact dG_get2 hu I3 g ry rz fun w' s4 I4 rw' => ⟨_, H3, I4, rw', q3⟩
end
end Dl

/-! ## Walks of dicts that are locked, whatever their keys -/
namespace Dl
open PySem PySem.Spec PyProof.Rows L2
/-- the entry i: its key and its value -/
def enU (H : Hp) : HO → Nat → V → V → Prop
  | .dK kvs, i, x, v => ∃ k, kvs[i]? = some (k, v) ∧ x = kV k
  | .dT kvs, i, x, v => ∃ k q, kvs[i]? = some (k, v) ∧ x = .ref q ∧ H q = some (.tup (k.map kV))
  | _, _, _, _ => False
def szU : HO → Nat
  | .dK kvs => kvs.length
  | .dT kvs => kvs.length
  | _ => 0
def IsU : HO → Prop
  | .dK _ => True
  | .dT _ => True
  | _ => False
section
variable {X : Cx} {pins : List (Addr × Obj)} {σ : L2.St} {H : Hp} {s : Shared} {d : Addr} {o : Obj} {u : HO}
theorem frzU (I : Inv X pins σ H s) (hu : IsU u) (h : H d = some (.frz o u)) : (d == sysModules) = false ∧ ∃ es ep, o.data = .dict es ep ∧ s.heap.DictRaw d es ep ∧ es.size = szU u ∧
    ∀ (i : Nat) (hi : i < es.size), ∃ x v, enU H u i x v ∧ RelV x es[i].key ∧ RelV v es[i].val := by
  cases u with
  | dK kvs =>
    obtain ⟨hs, hgd, hx, es, ep, vs, hdt, hsz, kv, hm⟩ := I.frzK h
    obtain ⟨es', hr, hs', he⟩ := hm.raw
    obtain ⟨o', ho', hc', hd'⟩ := id hr
    rw [hgd] at ho'
    cases ho'
    obtain ⟨rfl, _⟩ := dict_ep hdt hd'
    refine ⟨hs, es', ep, hdt, hr, hsz, fun i hi => ?_⟩
    have hi2 : i < kvs.length := by omega
    obtain ⟨⟨k, v⟩, hkv⟩ : ∃ p, kvs[i]? = some p := ⟨kvs[i], List.getElem?_eq_getElem hi2⟩
    obtain ⟨w, hw, rw'⟩ := kv_get kv hkv
    obtain ⟨e1, e2⟩ := he i hi k w hw
    exact ⟨kV k, v, ⟨k, hkv, rfl⟩, relV_key e1, by rw [e2]; exact rw'⟩
  | dT kvs =>
    obtain ⟨hd, z, hs, xs, pr, o', es, ep, ho, hx, hdt, he, _⟩ := I.hok d _ h
    rw [hd] at ho
    cases ho
    have l1 : es.size = xs.length := size_of_entries he
    have l2 : kvs.length = xs.length := Paired.length pr
    refine ⟨hs, es, ep, hdt, ⟨o, hd, hx, hdt⟩, by show _ = kvs.length; omega, fun i hi => ?_⟩
    obtain ⟨⟨k, v⟩, hkv⟩ : ∃ p, kvs[i]? = some p := ⟨kvs[i], List.getElem?_eq_getElem (by omega)⟩
    obtain ⟨b, hb, e1, e2, e3⟩ := paired_get pr hkv
    have q := entry_at he i
    rw [hb, Array.getElem?_eq_getElem hi] at q
    have q' := Option.some.inj q
    refine ⟨.ref b.2.1, v, ⟨k, b.2.1, hkv, rfl, e2⟩, by rw [q']; rfl, ?_⟩
    rw [q']
    exact e3
  | _ => exact hu.elim
end
def ItKeys (d : Addr) (o : Obj) (u : HO) : It :=
  ⟨fun i H => H d = some (.frz o u) ∧ i < szU u, fun i H x H' => H' = H ∧ ∃ v, enU H u i x v, fun i H => H d = some (.frz o u) ∧ szU u ≤ i⟩
def ItVals (d : Addr) (o : Obj) (u : HO) : It :=
  ⟨fun i H => H d = some (.frz o u) ∧ i < szU u, fun i H x H' => H' = H ∧ ∃ k, enU H u i k x, fun i H => H d = some (.frz o u) ∧ szU u ≤ i⟩
def ItItems (d : Addr) (o : Obj) (u : HO) : It :=
  ⟨fun i H => H d = some (.frz o u) ∧ i < szU u, fun i H x H' => ∃ T k v, enU H u i k v ∧ x = .ref T ∧ H T = none ∧ H' = upd H T (.tup [k, v]), fun i H => H d = some (.frz o u) ∧ szU u ≤ i⟩
section
variable {P : Program} {w : World} {K : PySem.W.Frag} {tg : Expr} {d : Addr} {o : Obj} {u : HO} {es : Array DictEntry} {ep : Nat}
theorem turn_keysU (it : Addr) (hu : IsU u) (hod : o.data = .dict es ep) : Turn P w K tg (ItKeys d o u) [it] it (fun i h => h.IsKeyIter it d i es.size ep) where
  mem := by simp
  obj := fun i h st b hb => by
    have e : b = it := by simpa using hb
    subst e
    obtain ⟨oi, e, c, dd⟩ := st
    exact ⟨oi, e, fun v z => by rw [dd] at z; cases z⟩
  keep := fun i h h' st k => st.at fun oi e => k it (by simp) oi e
  item := by
    intro X hP hw hK hc i pins s σ H E I hf st hg
    subst hP hw hK
    obtain ⟨hd, hi⟩ := hg
    obtain ⟨f0, f1, f2, f3, f4, f5⟩ := hf it (by simp)
    obtain ⟨hs, es', ep', hdt, hr, hsz, ent⟩ := frzU I hu hd
    obtain ⟨rfl, rfl⟩ := dict_ep hod hdt
    obtain ⟨x, v, hen, rx, rv⟩ := ent i (by omega)
    refine wpAny_pyNext_keys_item_raw st hr (by omega) fun h' st' sb => ?_
    have I1 : Inv X pins σ H { s with heap := h' } := I.turned (t' := s.toks) (fun b ob hb e => (sb.2 b hb).trans e) f0 f1 f3 f4 f5
    obtain ⟨oi, e, c, dd⟩ := id st'
    exact ⟨_, rfl, go_of (s := { s with heap := h' }) e c dd (by decide) ⟨x, H, I1, rx, ⟨rfl, v, hen⟩, st', fun b hb => (hf b hb).1⟩⟩
  done := by
    intro X hP hw hK hc i pins s σ H E I hf st hg
    subst hP hw hK
    obtain ⟨hd, hi⟩ := hg
    obtain ⟨f0, f1, f2, f3, f4, f5⟩ := hf it (by simp)
    obtain ⟨hs, es', ep', hdt, hr, hsz, ent⟩ := frzU I hu hd
    obtain ⟨rfl, rfl⟩ := dict_ep hod hdt
    exact wpAny_pyNext_keys_end_raw (I.ok.hd hc) st hr (by omega) fun h' eb => ⟨rfl, I.turned (t' := s.toks) (fun b ob hb e => eb b ob hb e) f0 f1 f3 f4 f5⟩
  self := fun A i s Q E st h => wpAny_pyIter_keyiter st h
theorem turn_valsU (it : Addr) (hu : IsU u) (hod : o.data = .dict es ep) : Turn P w K tg (ItVals d o u) [it] it (fun i h => h.IsValIter it d i es.size ep) where
  mem := by simp
  obj := fun i h st b hb => by
    have e : b = it := by simpa using hb
    subst e
    obtain ⟨oi, e, c, dd⟩ := st
    exact ⟨oi, e, fun v z => by rw [dd] at z; cases z⟩
  keep := fun i h h' st k => st.at fun oi e => k it (by simp) oi e
  item := by
    intro X hP hw hK hc i pins s σ H E I hf st hg
    subst hP hw hK
    obtain ⟨hd, hi⟩ := hg
    obtain ⟨f0, f1, f2, f3, f4, f5⟩ := hf it (by simp)
    obtain ⟨hs, es', ep', hdt, hr, hsz, ent⟩ := frzU I hu hd
    obtain ⟨rfl, rfl⟩ := dict_ep hod hdt
    obtain ⟨x, v, hen, rx, rv⟩ := ent i (by omega)
    refine wpAny_pyNext_values_item_raw st hr (by omega) fun h' st' sb => ?_
    have I1 : Inv X pins σ H { s with heap := h' } := I.turned (t' := s.toks) (fun b ob hb e => (sb.2 b hb).trans e) f0 f1 f3 f4 f5
    obtain ⟨oi, e, c, dd⟩ := id st'
    exact ⟨_, rfl, go_of (s := { s with heap := h' }) e c dd (by decide) ⟨v, H, I1, rv, ⟨rfl, x, hen⟩, st', fun b hb => (hf b hb).1⟩⟩
  done := by
    intro X hP hw hK hc i pins s σ H E I hf st hg
    subst hP hw hK
    obtain ⟨hd, hi⟩ := hg
    obtain ⟨f0, f1, f2, f3, f4, f5⟩ := hf it (by simp)
    obtain ⟨hs, es', ep', hdt, hr, hsz, ent⟩ := frzU I hu hd
    obtain ⟨rfl, rfl⟩ := dict_ep hod hdt
    exact wpAny_pyNext_values_end_raw (I.ok.hd hc) st hr (by omega) fun h' eb => ⟨rfl, I.turned (t' := s.toks) (fun b ob hb e => eb b ob hb e) f0 f1 f3 f4 f5⟩
  self := fun A i s Q E st h => wpAny_pyIter_valiter st h
theorem turn_itemsU {elts : List Expr} {kk : Nat} {tpos : Pos} (it : Addr) (hu : IsU u) (hod : o.data = .dict es ep) :
    Turn P w K (.Tuple elts kk tpos) (ItItems d o u) [it] it (fun i h => ∃ ok ov, IsItemIter h it d i es.size ep ok ov) where
  mem := by simp
  obj := fun i h st b hb => by
    have e : b = it := by simpa using hb
    subst e
    obtain ⟨ok, ov, e⟩ := st
    exact ⟨_, e, fun v z => nomatch z⟩
  keep := fun i h h' st k => let ⟨ok, ov, e⟩ := st; ⟨ok, ov, k it (by simp) _ e⟩
  item := by
    intro X hP hw hK hc i pins s σ H E I hf st hg
    subst hP hw hK
    obtain ⟨hd, hi⟩ := hg
    obtain ⟨hs, es', ep', hdt, hr, hsz, ent⟩ := frzU I hu hd
    obtain ⟨rfl, rfl⟩ := dict_ep hod hdt
    obtain ⟨x, v, hen, rx, rv⟩ := ent i (by omega)
    obtain ⟨ok, ov, he⟩ := st
    have hlt : it < s.heap.objs.size := Heap.lt_size he
    refine wpAny_pyNext_items_item_raw he hr (by omega) fun h' ho hT hz hk => ?_
    refine ⟨_, rfl, wpAny_letOwnedTupleGo_items (s := { s with heap := h' }) ho fun h'' he' sb => ?_⟩
    have hT2 := (sb.2 _ (Nat.ne_of_gt hlt)).trans hT
    have new : ObjOk X.prog X.w (upd H s.heap.objs.size (.tup [x, v])) h'' s.heap.objs.size (.tup [x, v]) :=
      ⟨by show 2 ≤ sizeLine; decide, [_, _], .cons rx (.cons rv .nil), ⟨_, hT2, rfl, _, rfl⟩⟩
    have I1 : Inv X pins σ (upd H s.heap.objs.size (.tup [x, v])) { s with heap := h'' } :=
      I.turnedNew (t' := s.toks) (ch := [it]) (fun b ob hb e => (sb.2 b (by simpa using hb)).trans (hk b ob (by simpa using hb) e)) hf (Nat.le_refl _) new
    refine ⟨.ref s.heap.objs.size, _, I1, rfl, ⟨_, x, v, hen, rfl, I.hok.fresh (Nat.le_refl _), rfl⟩, ⟨_, _, he'⟩, fun b hb => ?_⟩
    have e : b = it := by simpa using hb
    rw [e, upd_ne (Nat.ne_of_lt hlt)]
    exact (hf it (by simp)).1
  done := by
    intro X hP hw hK hc i pins s σ H E I hf st hg
    subst hP hw hK
    obtain ⟨hd, hi⟩ := hg
    obtain ⟨f0, f1, f2, f3, f4, f5⟩ := hf it (by simp)
    obtain ⟨hs, es', ep', hdt, hr, hsz, ent⟩ := frzU I hu hd
    obtain ⟨rfl, rfl⟩ := dict_ep hod hdt
    obtain ⟨ok, ov, he⟩ := st
    exact wpAny_pyNext_items_end_raw (I.ok.hd hc) he hr (by omega) fun h' eb => ⟨rfl, I.turned (t' := s.toks) (fun b ob hb e => eb b ob hb e) f0 f1 f3 f4 f5⟩
  self := fun A i s Q E st h => let ⟨_, _, e⟩ := st; PySem.W.kcp_self e h
end
def iKeysU (td : TE) : TI := fun σ H R => td σ H fun x H1 => ∃ d o u, x = .ref d ∧ IsU u ∧ H1 d = some (.frz o u) ∧ R (ItKeys d o u) H1
def iValsU (td : TE) : TI := fun σ H R => td σ H fun x H1 => ∃ d o u, x = .ref d ∧ IsU u ∧ H1 d = some (.frz o u) ∧ R (ItVals d o u) H1
def iItemsU (td : TE) : TI := fun σ H R => td σ H fun x H1 => ∃ d o u, x = .ref d ∧ IsU u ∧ H1 d = some (.frz o u) ∧ R (ItItems d o u) H1
section
variable {X : Cx} {tg e : Expr} {td : TE} {apos cpos : Pos}
theorem pi_keysU (he : PE X e td) : PI X tg e (iKeysU td) := by
  refine ⟨fun pins s σ H R I h => ?_⟩
  refine thn (he.run pins s σ H _ I h) fun v s1 ⟨x, H1, I1, rx, d, o, u, ex, hu, hd, q⟩ => ?_
  subst ex
  obtain rfl : v = Value.ref d := rx
  obtain ⟨hs, es, ep, hdt, hr, hsz, ent⟩ := frzU I1 hu hd
  exact wpAny_pyIter_dict_raw hs hr (pi_one (tk := s1.toks) I1 _ (turn_keysU _ hu hdt) ⟨_, Heap.get?_push_size _ rfl, rfl, rfl⟩ q)
theorem pi_valuesU (he : PE X e td) (hbase : attributeBase e "values" X.env (eval e X.env) = eval e X.env := by rfl) (hline : (apos.endLine == cpos.line) = true := by rfl) : PI X tg (.Call (.Attribute e "values" apos) [] [] cpos) (iValsU td) := by
  refine ⟨fun pins s σ H R I h => ?_⟩
  refine wpAny_Call_method (T := "dict") (id := "dict.values") hbase rfl hline F.plainAttrs_dict F.slot_dict_values F.type_dict_values (thn (he.run pins s σ H _ I h) fun v s1 ⟨x, H1, I1, rx, d, o, u, ex, hu, hd, q⟩ => ?_)
  subst ex
  obtain rfl : v = Value.ref d := rx
  obtain ⟨hs, es, ep, hdt, hr, hsz, ent⟩ := frzU I1 hu hd
  refine ⟨hr.typeIs, ?_, ?_⟩
  · obtain ⟨ob, h1, h2, h3⟩ := hr
    exact fun b hb => by
      cases hb
      exact ⟨ob, h1, h2.2.1⟩
  have I2 : Inv X pins σ H1 { s1 with heap := s1.heap.push { cls := .type "dict_values", data := .fields #[.ref d] } } := I1.kept (t' := s1.toks) fun b ob q => Heap.get?_push_of_some _ q
  have fin : wpAny (model X.prog X.w) X.A (pyIter (.ref s1.heap.objs.size)) (PIE X pins σ tg R) X.xe { s1 with heap := s1.heap.push { cls := .type "dict_values", data := .fields #[.ref d] } } := by
    refine wpAny_pyIter_values_raw (d := d) ⟨_, Heap.get?_push_size _ rfl, rfl, rfl⟩ (hr.at fun o q => Heap.get?_push_of_some _ q) (pi_one (tk := s1.toks) I2 _ (turn_valsU _ hu hdt) ⟨_, Heap.get?_push_size _ rfl, rfl, rfl⟩ q)
  show wpAny _ _ (callWith cpos (.builtin "dict.values") [.ref d] [] []) _ X.xe s1
  exact method_meetsIn F.slot_dict_values F.entry_dict_values rfl (PySem.evalArgs_none ⟨rfl, hr.typeIs, F.args_dict_values_1 _, _, meets_dict_values_raw d hs, ⟨es, ep, hr⟩, fin⟩)
theorem pi_itemsU {elts : List Expr} {kk : Nat} {tpos : Pos} (he : PE X e td) (hbase : attributeBase e "items" X.env (eval e X.env) = eval e X.env := by rfl) (hline : (apos.endLine == cpos.line) = true := by rfl) :
    PI X (.Tuple elts kk tpos) (.Call (.Attribute e "items" apos) [] [] cpos) (iItemsU td) := by
  refine ⟨fun pins s σ H R I h => ?_⟩
  refine wpAny_Call_method (T := "dict") (id := "dict.items") hbase rfl hline F.plainAttrs_dict F.slot_dict_items F.type_dict_items (thn (he.run pins s σ H _ I h) fun v s1 ⟨x, H1, I1, rx, d, o, u, ex, hu, hd, q⟩ => ?_)
  subst ex
  obtain rfl : v = Value.ref d := rx
  obtain ⟨hs, es, ep, hdt, hr, hsz, ent⟩ := frzU I1 hu hd
  refine ⟨hr.typeIs, ?_, ?_⟩
  · obtain ⟨ob, h1, h2, h3⟩ := hr
    exact fun b hb => by
      cases hb
      exact ⟨ob, h1, h2.2.1⟩
  have I2 : Inv X pins σ H1 { s1 with heap := s1.heap.push { cls := .type "dict_items", data := .fields #[.ref d] } } := I1.kept (t' := s1.toks) fun b ob q => Heap.get?_push_of_some _ q
  have fin : wpAny (model X.prog X.w) X.A (pyIter (.ref s1.heap.objs.size)) (PIE X pins σ (.Tuple elts kk tpos) R) X.xe { s1 with heap := s1.heap.push { cls := .type "dict_items", data := .fields #[.ref d] } } := by
    refine wpAny_pyIter_items_raw (d := d) ⟨_, Heap.get?_push_size _ rfl, rfl, rfl⟩ (hr.at fun o q => Heap.get?_push_of_some _ q) (pi_one (tk := s1.toks) I2 _ (turn_itemsU _ hu hdt) ⟨.none, .none, ?_⟩ q)
    exact Heap.get?_push_size _ rfl
  show wpAny _ _ (callWith cpos (.builtin "dict.items") [.ref d] [] []) _ X.xe s1
  exact method_meetsIn F.slot_dict_items F.entry_dict_items rfl (PySem.evalArgs_none ⟨rfl, hr.typeIs, F.args_dict_items_1 _, _, meets_dict_items_raw d hs, ⟨es, ep, hr⟩, fin⟩)
end
end Dl

/-! ## Data that stands still, and a logic of blocks over it -/
namespace Dl
open PySem PySem.Spec PyProof.Rows L2

/-! ### data -/
/-- a key as data -/
def kD : Key → PyData
  | .inl i => .int i
  | .inr z => .str z
/-- a key that is a tuple -/
def tD (ks : List Key) : PyData := .tuple (ks.map kD)
mutual
inductive Dq (K : PySem.W.Frag) (D : Hp) : V → PyData → Prop
  | non : Dq K D .non .none
  | bl (b : Bool) : Dq K D (.bl b) (.bool b)
  | int (i : Int) : Dq K D (.int i) (.int i)
  | str (x : Str) : Dq K D (.str x) (.str x)
  | lst {a : Addr} {xs : List V} {ds : List PyData} : SqL K D a xs → DqA K D xs ds → Dq K D (.ref a) (.list ds)
  | tup {a : Addr} {xs : List V} {ds : List PyData} : SqT K D a xs → DqA K D xs ds → Dq K D (.ref a) (.tuple ds)
  | dic {a : Addr} {ks : List Key} {xs : List V} {ds : List PyData} : FzK D a (ks.zip xs) → ks.length = xs.length → DqA K D xs ds → Dq K D (.ref a) (.dict ((ks.map kD).zip ds))
  | dicT {a : Addr} {ks : List (List Key)} {xs : List V} {ds : List PyData} : FzT D a (ks.zip xs) → ks.length = xs.length → DqA K D xs ds → Dq K D (.ref a) (.dict ((ks.map tD).zip ds))
inductive DqA (K : PySem.W.Frag) (D : Hp) : List V → List PyData → Prop
  | nil : DqA K D [] []
  | cons {v : V} {vs : List V} {d : PyData} {ds : List PyData} : Dq K D v d → DqA K D vs ds → DqA K D (v :: vs) (d :: ds)
end

theorem same_rd {H H' : Hp} {a : Addr} {u : HO} (e : Same H H') (h : Rd H a u) : Rd H' a u := by
  cases h with
  | inl h => exact Or.inl (e a _ h)
  | inr h =>
    obtain ⟨o, h⟩ := h
    exact Or.inr ⟨o, e a _ h⟩
theorem same_rdK {H H' : Hp} {a : Addr} {kvs : List (Key × V)} (e : Same H H') (h : RdK H a kvs) : RdK H' a kvs := h.imp (same_rd e) fun z => ⟨z.1, same_rd e z.2⟩
theorem same_rdT {H H' : Hp} {a : Addr} {kvs : List (List Key × V)} (e : Same H H') (h : RdT H a kvs) : RdT H' a kvs := h.imp (same_rd e) fun z => ⟨z.1, same_rd e z.2⟩
theorem same_fzK {H H' : Hp} {a : Addr} {kvs : List (Key × V)} (e : Same H H') (h : FzK H a kvs) : FzK H' a kvs := h.imp (fun ⟨o, z⟩ => ⟨o, e a _ z⟩) fun ⟨z, o, h⟩ => ⟨z, o, e a _ h⟩
theorem same_fzT {H H' : Hp} {a : Addr} {kvs : List (List Key × V)} (e : Same H H') (h : FzT H a kvs) : FzT H' a kvs := h.imp (fun ⟨o, z⟩ => ⟨o, e a _ z⟩) fun ⟨z, o, h⟩ => ⟨z, o, e a _ h⟩
theorem same_l {K : PySem.W.Frag} {H H' : Hp} {a : Addr} {xs : List V} (e : Same H H') (h : SqL K H a xs) : SqL K H' a xs :=
  h.elim (fun h => Or.inl (same_rd e h)) Or.inr
theorem same_t {K : PySem.W.Frag} {H H' : Hp} {a : Addr} {xs : List V} (e : Same H H') (h : SqT K H a xs) : SqT K H' a xs :=
  h.elim (fun h => Or.inl (same_rd e h)) Or.inr

section
variable {K : PySem.W.Frag} {D D' : Hp}
mutual
theorem Dq.mono (e : Same D D') : ∀ {d : PyData} {v : V}, Dq K D v d → Dq K D' v d
  | _, _, .non => .non
  | _, _, .bl b => .bl b
  | _, _, .int i => .int i
  | _, _, .str x => .str x
  | _, _, .lst h1 h2 => .lst (same_l e h1) (DqA.mono e h2)
  | _, _, .tup h1 h2 => .tup (same_t e h1) (DqA.mono e h2)
  | _, _, .dic h1 hl h2 => .dic (same_fzK e h1) hl (DqA.mono e h2)
  | _, _, .dicT h1 hl h2 => .dicT (same_fzT e h1) hl (DqA.mono e h2)
theorem DqA.mono (e : Same D D') : ∀ {ds : List PyData} {vs : List V}, DqA K D vs ds → DqA K D' vs ds
  | _, _, .nil => .nil
  | _, _, .cons h1 h2 => .cons (Dq.mono e h1) (DqA.mono e h2)
end
theorem Dq.dictI {v : V} {kvs : List (PyData × PyData)} (h : Dq K D v (.dict kvs)) : (∃ (a : Addr) (ks : List Key) (xs : List V) (ds : List PyData), v = .ref a ∧ FzK D a (ks.zip xs) ∧ ks.length = xs.length ∧ DqA K D xs ds ∧ kvs = (ks.map kD).zip ds) ∨
    ∃ (a : Addr) (ks : List (List Key)) (xs : List V) (ds : List PyData), v = .ref a ∧ FzT D a (ks.zip xs) ∧ ks.length = xs.length ∧ DqA K D xs ds ∧ kvs = (ks.map tD).zip ds := by
  generalize e : PyData.dict kvs = d at h
  cases h with
  | dic h1 h2 h3 =>
    cases e
    exact Or.inl ⟨_, _, _, _, rfl, h1, h2, h3, rfl⟩
  | dicT h1 h2 h3 =>
    cases e
    exact Or.inr ⟨_, _, _, _, rfl, h1, h2, h3, rfl⟩
  | _ => cases e
theorem Dq.up {d : PyData} {v : V} (h : Dq K D v d) (e : Same D D') : Dq K D' v d := Dq.mono e h
theorem DqA.up {ds : List PyData} {vs : List V} (h : DqA K D vs ds) (e : Same D D') : DqA K D' vs ds := DqA.mono e h
theorem DqA.len : ∀ {vs : List V} {ds : List PyData}, DqA K D vs ds → vs.length = ds.length
  | _, [], h => by cases h; rfl
  | _, _ :: _, h => by
    cases h with
    | cons _ h2 => rw [List.length_cons, List.length_cons, h2.len]
theorem DqA.app : ∀ {vs us : List V} {ds es : List PyData}, DqA K D vs ds → DqA K D us es → DqA K D (vs ++ us) (ds ++ es)
  | _, _, [], _, h, h' => by cases h; exact h'
  | _, _, _ :: _, _, h, h' => by
    cases h with
    | cons h1 h2 => exact .cons h1 (h2.app h')
theorem DqA.at : ∀ {vs : List V} {ds : List PyData} {i : Nat} {d : PyData}, DqA K D vs ds → ds[i]? = some d → ∃ v, vs[i]? = some v ∧ Dq K D v d
  | _, [], _, _, _, e => by simp at e
  | _, _ :: _, 0, _, h, e => by
    cases h with
    | cons h1 _ =>
      cases e
      exact ⟨_, rfl, h1⟩
  | _, _ :: _, i + 1, _, h, e => by
    cases h with
    | cons _ h2 => exact h2.at (i := i) e
theorem DqA.atV {vs : List V} {ds : List PyData} {i : Nat} {v : V} (h : DqA K D vs ds) (e : vs[i]? = some v) : ∃ d, ds[i]? = some d ∧ Dq K D v d := by
  have hl := h.len
  have hi : i < vs.length := (List.getElem?_eq_some_iff.mp e).1
  obtain ⟨d, hd⟩ : ∃ d, ds[i]? = some d := ⟨ds[i], List.getElem?_eq_getElem (by omega)⟩
  obtain ⟨v', e', q⟩ := h.at hd
  rw [e] at e'
  cases e'
  exact ⟨d, hd, q⟩
theorem DqA.ints : ∀ (ns : List Int), DqA K D (ns.map V.int) (ns.map PyData.int)
  | [] => .nil
  | n :: ns => .cons (.int n) (DqA.ints ns)
theorem DqA.isInts : ∀ {vs : List V} (ns : List Int), DqA K D vs (ns.map PyData.int) → vs = ns.map V.int
  | _, [], h => by cases h; rfl
  | _, n :: ns, h => by
    cases h with
    | cons h1 h2 =>
      cases h1
      rw [h2.isInts ns]
      rfl
theorem DqA.isStrs : ∀ {vs : List V} (ns : List Str), DqA K D vs (ns.map PyData.str) → vs = ns.map V.str
  | _, [], h => by cases h; rfl
  | _, n :: ns, h => by
    cases h with
    | cons h1 h2 =>
      cases h1
      rw [h2.isStrs ns]
      rfl
theorem DqA.strs : ∀ (ns : List Str), DqA K D (ns.map V.str) (ns.map PyData.str)
  | [] => .nil
  | n :: ns => .cons (.str n) (DqA.strs ns)
theorem DqA.isBools : ∀ {vs : List V} (ns : List Bool), DqA K D vs (ns.map PyData.bool) → vs = ns.map V.bl
  | _, [], h => by cases h; rfl
  | _, n :: ns, h => by
    cases h with
    | cons h1 h2 =>
      cases h1
      rw [h2.isBools ns]
      rfl
theorem DqA.take (n : Nat) : ∀ {vs : List V} {ds : List PyData}, DqA K D vs ds → DqA K D (vs.take n) (ds.take n) := by
  induction n with
  | zero => intro vs ds _; exact .nil
  | succ n ih =>
    intro vs ds h
    cases h with
    | nil => exact .nil
    | cons h1 h2 => exact .cons h1 (ih h2)
theorem DqA.drop (n : Nat) : ∀ {vs : List V} {ds : List PyData}, DqA K D vs ds → DqA K D (vs.drop n) (ds.drop n) := by
  induction n with
  | zero => intro vs ds h; exact h
  | succ n ih =>
    intro vs ds h
    cases h with
    | nil => exact .nil
    | cons h1 h2 => exact ih h2
theorem DqA.setAt : ∀ {vs : List V} {ds : List PyData} (i : Nat) {v : V} {d : PyData}, DqA K D vs ds → Dq K D v d → DqA K D (vs.set i v) (ds.set i d)
  | _, [], _, _, _, h, _ => by cases h; exact .nil
  | _, _ :: _, 0, _, _, h, q => by
    cases h with
    | cons _ h2 => exact .cons q h2
  | _, _ :: _, i + 1, _, _, h, q => by
    cases h with
    | cons h1 h2 => exact .cons h1 (h2.setAt i q)
end

section
variable {X : Cx} {pins : List (Addr × Obj)} {σ : L2.St} {H : Hp} {s : Shared}
theorem keys_read {h : Heap} {P : Program} {w : World} : ∀ {es : List DictEntry} {ks : List Key} {us : List Value}, ks.length = us.length → Pairs (mixKind P w) es (ks.zip us) → ∃ as, ReadsAll h (es.map (·.key)) (ks.map kD) as ∧ as = []
  | _, [], _, _, h => by
    cases h
    exact ⟨_, ReadsAll.nil, rfl⟩
  | _, k :: ks, [], hl, h => by cases hl
  | _, k :: ks, u :: us, hl, h => by
    cases h with
    | cons h1 h2 h3 =>
      obtain ⟨as, q, e⟩ := keys_read (by simpa using hl) h3
      subst e
      rcases keyIs_shape (show keyIs k _ = true from h1) with ⟨i, t, rfl, e2⟩ | ⟨x, t, rfl, e2⟩
      · exact ⟨_, ReadsAll.cons (by dsimp only; rw [e2]; exact Reads.int i t) q, rfl⟩
      · exact ⟨_, ReadsAll.cons (by dsimp only; rw [e2]; exact Reads.str x t) q, rfl⟩
theorem kD_kV0 {K : PySem.W.Frag} {D : Hp} : ∀ (k : Key), Dq K D (kV k) (kD k)
  | .inl i => .int i
  | .inr z => .str z
theorem keysV0 {K : PySem.W.Frag} {D : Hp} : ∀ (ks : List Key), DqA K D (ks.map kV) (ks.map kD)
  | [] => .nil
  | k :: ks => .cons (kD_kV0 k) (keysV0 ks)
theorem vals_pairs {P : Program} {w : World} : ∀ {es : List DictEntry} {ks : List Key} {us : List Value}, ks.length = us.length → Pairs (mixKind P w) es (ks.zip us) → es.map (·.val) = us
  | _, [], [], _, h => by
    cases h
    rfl
  | _, [], _ :: _, hl, h => by cases hl
  | _, k :: ks, [], hl, h => by cases hl
  | _, k :: ks, u :: us, hl, h => by
    cases h with
    | cons h1 h2 h3 =>
      rw [List.map_cons, vals_pairs (by simpa using hl) h3, h2]
theorem kv_zip {ks : List Key} : ∀ {xs : List V} {vs : List (Key × Value)}, ks.length = xs.length → KV (ks.zip xs) vs → ∃ us, vs = ks.zip us ∧ ks.length = us.length ∧ Vals xs us := by
  induction ks with
  | nil =>
    intro xs vs hl h
    cases xs with
    | nil =>
      cases h
      exact ⟨[], rfl, rfl, .nil⟩
    | cons x xs => cases hl
  | cons k ks ih =>
    intro xs vs hl h
    cases xs with
    | nil => cases hl
    | cons x xs =>
      cases h with
      | @cons _ q _ _ h1 h2 =>
        obtain ⟨us, e1, e2, e3⟩ := ih (by simpa using hl) h2
        obtain ⟨q1, q2⟩ := q
        obtain ⟨e4, e5⟩ := h1
        have e4 : k = q1 := e4
        subst e4
        exact ⟨q2 :: us, by rw [e1]; rfl, by rw [List.length_cons, List.length_cons, e2], .cons e5 e3⟩
theorem keyItems_read {h : Heap} : ∀ {ks : List Key} {us : List Value}, Vals (ks.map kV) us → ReadsAll h us (ks.map kD) []
  | [], _, r => by
    cases r
    exact ReadsAll.nil
  | .inl i :: ks, _, r => by
    cases r with
    | cons r1 r2 =>
      obtain ⟨t, rfl⟩ := r1
      exact ReadsAll.cons (Reads.int i t) (keyItems_read r2)
  | .inr z :: ks, _, r => by
    cases r with
    | cons r1 r2 =>
      obtain ⟨t, rfl⟩ := r1
      exact ReadsAll.cons (Reads.str z t) (keyItems_read r2)
theorem keysT_read (I : Inv X pins σ H s) : ∀ {ks : List (List Key)} {xs : List V} {zs : List (List Key × Addr × Value)}, ks.length = xs.length → KT H (ks.zip xs) zs →
    ReadsAll s.heap (zs.map fun z => Value.ref z.2.1) (ks.map tD) [] ∧ Vals xs (zs.map fun z => z.2.2)
  | [], [], _, _, h => by
    cases h
    exact ⟨ReadsAll.nil, .nil⟩
  | [], _ :: _, _, hl, _ => by cases hl
  | _ :: _, [], _, hl, _ => by cases hl
  | k :: ks, x :: xs, _, hl, h => by
    cases h with
    | @cons _ z _ zs h1 h2 =>
      obtain ⟨r1, r2⟩ := keysT_read I (by simpa using hl) h2
      obtain ⟨e1, e2, e3⟩ := h1
      obtain ⟨its, rv, ⟨o, g1, g2, n, g3⟩, _⟩ := I.tuple (xs := k.map kV) (a := z.2.1) (SqT.of e2)
      exact ⟨ReadsAll.cons (Reads.tuple g1 g2 g3 (keyItems_read rv)) r1, .cons e3 r2⟩
mutual
theorem Dq.reads (I : Inv X pins σ H s) : ∀ {d : PyData} {v : V} (u : Value), Dq X.K H v d → RelV v u → ∃ as, Reads s.heap u d as
  | _, _, _, .non, r => by
    cases (show _ = Value.none from r)
    exact ⟨_, Reads.none⟩
  | _, _, _, .bl b, r => by
    cases (show _ = Value.bool b from r)
    exact ⟨_, Reads.bool b⟩
  | _, _, _, .int i, r => by
    obtain ⟨t, rfl⟩ := r
    exact ⟨_, Reads.int i t⟩
  | _, _, _, .str x, r => by
    obtain ⟨t, rfl⟩ := r
    exact ⟨_, Reads.str x t⟩
  | _, _, _, .lst h1 h2, r => by
    cases r
    obtain ⟨its, rv, ⟨o, n, e1, e2, _, e3⟩, _⟩ := I.list h1
    obtain ⟨as, q⟩ := DqA.reads I its h2 rv
    exact ⟨_, Reads.list e1 e2 e3 q⟩
  | _, _, _, .tup h1 h2, r => by
    cases r
    obtain ⟨its, rv, ⟨o, e1, e2, n, e3⟩, _⟩ := I.tuple h1
    obtain ⟨as, q⟩ := DqA.reads I its h2 rv
    exact ⟨_, Reads.tuple e1 e2 e3 q⟩
  | _, _, _, .dic h1 hl h2, r => by
    cases r
    obtain ⟨_, _, vs, kv, o, es, ep, e1, ⟨c1, _, _⟩, e2, _, pr, _⟩ := dkG_rd I.hok h1.rd
    obtain ⟨us, e3, e4, rv⟩ := kv_zip hl kv
    subst e3
    obtain ⟨as, q⟩ := DqA.reads I us h2 rv
    obtain ⟨bs, q2, _⟩ := keys_read (h := s.heap) e4 pr
    have lk := h2.len
    refine ⟨_, Reads.dict e1 c1 e2 (as := bs) (bs := as) ?_ ?_⟩
    · rw [List.map_fst_zip (by rw [List.length_map]; omega)]
      exact q2
    · rw [vals_pairs e4 pr, List.map_snd_zip (by rw [List.length_map]; omega)]
      exact q
  | _, _, _, .dicT h1 hl h2, r => by
    cases r
    obtain ⟨_, _, zs, kt, o, es, ep, e1, ⟨c1, _, _⟩, e2, e3, _, _⟩ := dtG_rd I.hok h1.rd
    obtain ⟨q1, rv⟩ := keysT_read I hl kt
    obtain ⟨as, q⟩ := DqA.reads I _ h2 rv
    have lk := h2.len
    refine ⟨_, Reads.dict e1 c1 e2 (as := []) (bs := as) ?_ ?_⟩
    · rw [List.map_fst_zip (by rw [List.length_map]; omega), e3, List.map_map]
      exact q1
    · rw [e3, List.map_map, List.map_snd_zip (by rw [List.length_map]; omega)]
      exact q
theorem DqA.reads (I : Inv X pins σ H s) : ∀ {ds : List PyData} {vs : List V} (us : List Value), DqA X.K H vs ds → Vals vs us → ∃ as, ReadsAll s.heap us ds as
  | _, _, _, .nil, r => by
    cases r
    exact ⟨_, ReadsAll.nil⟩
  | _, _, _, .cons h1 h2, r => by
    cases r with
    | cons r1 r2 =>
      obtain ⟨as, q1⟩ := Dq.reads I _ h1 r1
      obtain ⟨bs, q2⟩ := DqA.reads I _ h2 r2
      exact ⟨_, ReadsAll.cons q1 q2⟩
end
end

section
variable {X : Cx}
/-- == and != of data -/
def rEqQ (K : PySem.W.Frag) (neg : Bool) : R2 := fun x y H Q => ∃ d e, Dq K H x d ∧ Dq K H y e ∧ SeqAt.shaped d = true ∧ SeqAt.shaped e = true ∧
  Q (.bl (if neg = true then !PyData.eqv d e else PyData.eqv d e)) H
theorem op_eqQ (hu : X.A.units + 64 < cLine) : OpR X (compareOp .Eq) (rEqQ X.K false) := by
  intro pins s σ H x y v u Q I rx ry h
  obtain ⟨d, e, hd, he, sd, se, q⟩ := h
  obtain ⟨as, r1⟩ := Dq.reads I v hd rx
  obtain ⟨bs, r2⟩ := Dq.reads I u he ry
  exact SeqAt.compareEq_shaped r1 r2 sd se hu ⟨.bl (PyData.eqv d e), H, I, rfl, q⟩
theorem op_neQ (hu : X.A.units + 64 < cLine) : OpR X (compareOp .NotEq) (rEqQ X.K true) := by
  intro pins s σ H x y v u Q I rx ry h
  obtain ⟨d, e, hd, he, sd, se, q⟩ := h
  obtain ⟨as, r1⟩ := Dq.reads I v hd rx
  obtain ⟨bs, r2⟩ := Dq.reads I u he ry
  exact SeqAt.compareNe_shaped r1 r2 sd se hu ⟨.bl (!PyData.eqv d e), H, I, rfl, q⟩
/-- repr of data, where no guard stands -/
def rRepr (K : PySem.W.Frag) : List V → Hp → VK → Prop := fun xs H Q => ∃ x d, xs = [x] ∧ Dq K H x d ∧ d.showable = true ∧ d.hasDict = false ∧ d.depth ≤ 60 ∧
  d.shown.length ≤ sizeLine ∧ Q (.str d.shown) H
theorem call_reprQ (hg : X.A.guards = some []) (hu : X.A.units + 64 < cLine) : CallR X (.builtin "repr") (rRepr X.K) := by
  intro pins s σ H xs us Q I r h
  obtain ⟨x, d, rfl, hd, h1, h2, h3, h4, q⟩ := h
  obtain ⟨u, rfl, ru⟩ := vals1 r
  obtain ⟨as, rd⟩ := Dq.reads I u hd ru
  cases d with
  | none =>
    cases hd
    cases (show u = Value.none from ru)
    exact PySem.P.repr_of_none ⟨.str "None", H, I.tok _, ⟨_, rfl⟩, q⟩
  | bool b =>
    cases hd
    cases (show u = Value.bool b from ru)
    exact PySem.P.repr_of_bool ⟨.str (if b then "True" else "False"), H, I.tok _, ⟨_, rfl⟩, q⟩
  | int i =>
    cases hd
    obtain ⟨t, rfl⟩ := ru
    exact PySem.P.repr_of_int (of_decide_eq_true h1) ⟨.str (toString i), H, I.tok _, ⟨_, rfl⟩, q⟩
  | str y =>
    cases hd
    obtain ⟨t, rfl⟩ := ru
    exact PySem.P.repr_of_str ⟨.str (reprText y), H, I.tok _, ⟨_, rfl⟩, q⟩ h4
  | list ds =>
    cases hd
    cases ru
    refine repr_of_reads' rd h1 (PyData.noDict_hsm h2) hg (by omega) (fun _ _ e => e) (fun h' u tk hk => ?_) h4
    exact ⟨.str _, H, I.kept hk, ⟨_, rfl⟩, q⟩
  | tuple ds =>
    cases hd
    cases ru
    refine repr_of_reads' rd h1 (PyData.noDict_hsm h2) hg (by omega) (fun _ _ e => e) (fun h' u tk hk => ?_) h4
    exact ⟨.str _, H, I.kept hk, ⟨_, rfl⟩, q⟩
  | dict kvs => cases h2
end
end Dl

/-! ## The logic -/
namespace Dl
open PySem PySem.Spec L2

/-- what a def may change besides what it makes: the objects at adr, under inv -/
structure Fx where
  root : V
  adr : Addr → Prop
  inv : Hp → Prop
  keep : ∀ H H', inv H → (∀ a o, adr a → H a = some o → H' a = some o) → inv H'
  has : ∀ H a, inv H → adr a → H a ≠ none
  hasT : ∀ H a xs, inv H → adr a → H a ≠ some (.tup xs)

def Fx.non : Fx := ⟨.non, fun _ => False, fun _ => True, fun _ _ _ _ => trivial, fun _ _ _ h => h.elim, fun _ _ _ _ h => h.elim⟩

structure Ok (W : Fx) (D H : Hp) : Prop where
  sub : Same D H
  inv : W.inv H
  off : ∀ a, W.adr a → D a = none

structure Step (W : Fx) (D H D' H' : Hp) : Prop where
  gro : Same D D'
  sub : Same D' H'
  off : ∀ a o, ¬ W.adr a → H a = some o → H' a = some o
  new : ∀ p, D p = none → H p ≠ none → (∀ xs, H p ≠ some (.tup xs)) → D' p = none
  inv : W.inv H'

section
variable {W : Fx} {D H D1 H1 D2 H2 : Hp}
theorem Step.refl (o : Ok W D H) : Step W D H D H := ⟨Same.refl D, o.sub, fun _ _ _ h => h, fun _ h _ _ => h, o.inv⟩
theorem Step.ok (o : Ok W D H) (a : Step W D H D1 H1) : Ok W D1 H1 :=
  ⟨a.sub, a.inv, fun p h => a.new p (o.off p h) (W.has H p o.inv h) (fun xs => W.hasT H p xs o.inv h)⟩
theorem Step.trans (o : Ok W D H) (a : Step W D H D1 H1) (b : Step W D1 H1 D2 H2) : Step W D H D2 H2 where
  gro := a.gro.trans b.gro
  sub := b.sub
  off := fun p u h e => b.off p u h (a.off p u h e)
  new := fun p h e t => b.new p (a.new p h e t) (by
    by_cases hw : W.adr p
    · exact W.has H1 p a.inv hw
    · cases q : H p with
      | none => exact (e q).elim
      | some u =>
        rw [a.off p u hw q]
        exact fun z => nomatch z) (fun xs => by
    by_cases hw : W.adr p
    · exact W.hasT H1 p xs a.inv hw
    · cases q : H p with
      | none => exact (e q).elim
      | some u =>
        rw [a.off p u hw q, ← q]
        exact t xs)
  inv := b.inv
/-- a step that changes nothing that stood -/
theorem Step.kept (o : Ok W D H) (g : Same D D1) (s : Same D1 H1) (k : Same H H1) (n : ∀ p, D p = none → H p ≠ none → (∀ xs, H p ≠ some (.tup xs)) → D1 p = none) : Step W D H D1 H1 :=
  ⟨g, s, fun p u _ e => k p u e, n, W.keep H H1 o.inv fun p u _ e => k p u e⟩
theorem Step.keptH (o : Ok W D H) (k : Same H H1) : Step W D H D H1 := .kept o (Same.refl D) (o.sub.trans k) k fun _ h _ _ => h
theorem same_new {p : Addr} {u : HO} (h : H p = none) : Same H (upd H p u) := fun b x e => by
  rw [upd_ne (ne_of_none e h)]
  exact e
theorem same_upd2 {p : Addr} {u : HO} (s : Same D H) : Same (upd D p u) (upd H p u) := fun b x e => by
  by_cases hb : b = p
  · subst hb
    rw [upd_same] at e ⊢
    exact e
  · rw [upd_ne hb] at e ⊢
    exact s b x e
/-- a new object that is data at once -/
theorem Step.made (o : Ok W D H) {p : Addr} {u : HO} (h : H p = none) : Step W D H (upd D p u) (upd H p u) :=
  .kept o (same_new (o.sub.free h)) (same_upd2 o.sub) (same_new h) fun q h1 h2 _ => by
    rw [upd_ne (fun e => h2 (by rw [e]; exact h))]
    exact h1
/-- what stands new in H is data from now on -/
theorem Step.told (s : Step W D H D1 H1) {p : Addr} {u : HO} (h : H p = none) (h1 : D1 p = none) (e : H1 p = some u) : Step W D H (upd D1 p u) H1 where
  gro := s.gro.trans (same_new h1)
  sub := fun b x q => by
    by_cases hb : b = p
    · subst hb
      rw [upd_same] at q
      cases q
      exact e
    · rw [upd_ne hb] at q
      exact s.sub b x q
  off := s.off
  new := fun b q1 q2 q3 => by
    rw [upd_ne (fun z => q2 (by rw [z]; exact h))]
    exact s.new b q1 q2 q3
  inv := s.inv
end

/-- what is known of a slot -/
inductive Shp where
  | lst
  | dK (ks : List Key)
  | dT (ks : List (List Key))
/-- an own object: a list of items, or a dict of keys and items -/
abbrev Shp.ho : Shp → List V → HO
  | .lst, xs => .lst xs
  | .dK ks, xs => .dK (ks.zip xs)
  | .dT ks, xs => .dT (ks.zip xs)
theorem Shp.noT : ∀ (sh : Shp) (xs ys : List V), some (sh.ho xs) ≠ some (HO.tup ys)
  | .lst, _, _ => fun z => nomatch z
  | .dK _, _, _ => fun z => nomatch z
  | .dT _, _, _ => fun z => nomatch z
inductive Sk where
  | any
  | rt
  | dat (d : PyData)
  | ob (s : Shp) (ds : List PyData)
  | dd (f : Int → Option PyData)
abbrev Sk.own (ds : List PyData) : Sk := .ob .lst ds
abbrev Sk.kd (ks : List Key) (ds : List PyData) : Sk := .ob (.dK ks) ds
abbrev Sk.kdT (ks : List (List Key)) (ds : List PyData) : Sk := .ob (.dT ks) ds

def SlotOk (K : PySem.W.Frag) (W : Fx) (H0 D H : Hp) (o : Option V) : Sk → Prop
  | .any => True
  | .rt => o = some W.root
  | .dat d => ∃ v, o = some v ∧ Dq K D v d
  | .ob s ds => ∃ l xs, o = some (.ref l) ∧ D l = none ∧ H0 l = none ∧ ¬ W.adr l ∧ H l = some (s.ho xs) ∧ DqA K D xs ds
  | .dd f => ∃ a kvs, o = some (.ref a) ∧ Rd D a (.dK kvs) ∧ ∀ k : Int, (valV kvs (.inl k) = none ∧ f k = none) ∨ ∃ v d, valV kvs (.inl k) = some v ∧ f k = some d ∧ Dq K D v d

structure Env (K : PySem.W.Frag) (W : Fx) (D0 H0 D H : Hp) (σ : L2.St) (ρ : List Sk) : Prop where
  ok0 : Ok W D0 H0
  st : Step W D0 H0 D H
  slot : ∀ (i : Nat) k, ρ[i]? = some k → ∃ o, σ[i]? = some o ∧ SlotOk K W H0 D H o k
  dist : ∀ (i j : Nat) l s t ds es, ρ[i]? = some (.ob s ds) → ρ[j]? = some (.ob t es) → σ[i]? = some (some (.ref l)) → σ[j]? = some (some (.ref l)) → i = j

section
variable {K : PySem.W.Frag} {W : Fx} {D0 H0 D H D1 H1 : Hp} {σ : L2.St} {ρ : List Sk}
theorem Env.ok (e : Env K W D0 H0 D H σ ρ) : Ok W D H := e.st.ok e.ok0
theorem SlotOk.step {o : Option V} {k : Sk} (s : Step W D H D1 H1) (h : SlotOk K W H0 D H o k) : SlotOk K W H0 D1 H1 o k := by
  cases k with
  | any => trivial
  | rt => exact h
  | dat d =>
    obtain ⟨v, e, q⟩ := h
    exact ⟨v, e, q.up s.gro⟩
  | ob sh ds =>
    obtain ⟨l, xs, e, h1, h2, h3, h4, h5⟩ := h
    exact ⟨l, xs, e, s.new l h1 (by rw [h4]; exact fun z => nomatch z) (fun ys => by rw [h4]; exact Shp.noT _ _ ys), h2, h3, s.off l _ h3 h4, h5.up s.gro⟩
  | dd f =>
    obtain ⟨a, kvs, e, h1, h2⟩ := h
    refine ⟨a, kvs, e, same_rd s.gro h1, fun k => (h2 k).imp id fun ⟨v, d, q1, q2, q3⟩ => ⟨v, d, q1, q2, q3.up s.gro⟩⟩
theorem Env.step (e : Env K W D0 H0 D H σ ρ) (s : Step W D H D1 H1) : Env K W D0 H0 D1 H1 σ ρ where
  ok0 := e.ok0
  st := e.st.trans e.ok0 s
  slot := fun i k h => by
    obtain ⟨o, h1, h2⟩ := e.slot i k h
    exact ⟨o, h1, h2.step s⟩
  dist := e.dist
theorem Env.lt (e : Env K W D0 H0 D H σ ρ) {i : Nat} {k : Sk} (h : ρ[i]? = some k) : i < σ.length := by
  obtain ⟨o, h1, _⟩ := e.slot i k h
  exact (List.getElem?_eq_some_iff.mp h1).1
/-- a slot is given a value -/
theorem Env.set (e : Env K W D0 H0 D H σ ρ) {i : Nat} {v : V} {d : PyData} (hi : i < ρ.length) (q : Dq K D v d) : Env K W D0 H0 D H (σ.set i (some v)) (ρ.set i (.dat d)) where
  ok0 := e.ok0
  st := e.st
  slot := fun j k h => by
    have hσ : i < σ.length := e.lt (List.getElem?_eq_getElem hi)
    by_cases hj : i = j
    · subst hj
      rw [List.getElem?_set_self hi] at h
      cases h
      exact ⟨some v, List.getElem?_set_self hσ, v, rfl, q⟩
    · rw [List.getElem?_set_ne hj] at h
      obtain ⟨o, h1, h2⟩ := e.slot j k h
      exact ⟨o, by rw [List.getElem?_set_ne hj]; exact h1, h2⟩
  dist := fun j k l sh th ds es h1 h2 h3 h4 => by
    by_cases hj : i = j
    · subst hj
      rw [List.getElem?_set_self hi] at h1
      cases h1
    · by_cases hk : i = k
      · subst hk
        rw [List.getElem?_set_self hi] at h2
        cases h2
      · rw [List.getElem?_set_ne hj] at h1 h3
        rw [List.getElem?_set_ne hk] at h2 h4
        exact e.dist j k l sh th ds es h1 h2 h3 h4
/-- .. a list of its own -/
theorem Env.setOwn (e : Env K W D0 H0 D H σ ρ) {i : Nat} {l : Addr} {s : Shp} {xs : List V} {ds : List PyData} (hi : i < ρ.length) (h1 : D l = none) (h2 : H0 l = none) (h3 : ¬ W.adr l) (h4 : H l = some (s.ho xs)) (h5 : DqA K D xs ds)
    (ap : ∀ (j : Nat) t es, j ≠ i → ρ[j]? = some (.ob t es) → σ[j]? ≠ some (some (.ref l))) : Env K W D0 H0 D H (σ.set i (some (.ref l))) (ρ.set i (.ob s ds)) where
  ok0 := e.ok0
  st := e.st
  slot := fun j k h => by
    have hσ : i < σ.length := e.lt (List.getElem?_eq_getElem hi)
    by_cases hj : i = j
    · subst hj
      rw [List.getElem?_set_self hi] at h
      cases h
      exact ⟨_, List.getElem?_set_self hσ, l, xs, rfl, h1, h2, h3, h4, h5⟩
    · rw [List.getElem?_set_ne hj] at h
      obtain ⟨o, h1, h2⟩ := e.slot j k h
      exact ⟨o, by rw [List.getElem?_set_ne hj]; exact h1, h2⟩
  dist := fun j k m sh th ds' es h1' h2' h3' h4' => by
    have hσ : i < σ.length := e.lt (List.getElem?_eq_getElem hi)
    by_cases hj : i = j
    · by_cases hk : i = k
      · exact hj.symm.trans hk
      · subst hj
        rw [List.getElem?_set_self hσ] at h3'
        cases h3'
        rw [List.getElem?_set_ne hk] at h2' h4'
        exact (ap k th es (Ne.symm hk) h2' h4').elim
    · by_cases hk : i = k
      · subst hk
        rw [List.getElem?_set_self hσ] at h4'
        cases h4'
        rw [List.getElem?_set_ne hj] at h1' h3'
        exact (ap j sh ds' (Ne.symm hj) h1' h3').elim
      · rw [List.getElem?_set_ne hj] at h1' h3'
        rw [List.getElem?_set_ne hk] at h2' h4'
        exact e.dist j k m sh th ds' es h1' h2' h3' h4'
/-- a list of one's own is changed -/
theorem Env.writeO (e : Env K W D0 H0 D H σ ρ) {i : Nat} {l : Addr} {s t : Shp} {ds es : List PyData} {ys : List V} (hi : ρ[i]? = some (.ob s ds)) (hl : σ[i]? = some (some (.ref l))) (hy : DqA K D ys es) :
    Env K W D0 H0 D (upd H l (t.ho ys)) σ (ρ.set i (.ob t es)) := by
  obtain ⟨o, q1, q2⟩ := e.slot i _ hi
  rw [hl] at q1
  cases q1
  obtain ⟨l', xs, z, h1, h2, h3, h4, h5⟩ := q2
  cases z
  have hlen : i < ρ.length := (List.getElem?_eq_some_iff.mp hi).1
  refine ⟨e.ok0, ⟨e.st.gro, fun b x q => ?_, fun b x hb q => ?_, e.st.new, ?_⟩, fun j k h => ?_, fun j k m sh th ds' es' h1' h2' h3' h4' => ?_⟩
  · rw [upd_ne (fun z => by rw [z, h1] at q; cases q)]
    exact e.st.sub b x q
  · rw [upd_ne (fun z => by rw [z, h2] at q; cases q)]
    exact e.st.off b x hb q
  · refine W.keep H _ e.st.inv fun b x hb q => ?_
    rw [upd_ne (fun z => h3 (by rw [← z]; exact hb))]
    exact q
  · by_cases hj : i = j
    · subst hj
      rw [List.getElem?_set_self hlen] at h
      cases h
      exact ⟨_, hl, l, ys, rfl, h1, h2, h3, upd_same, hy⟩
    · rw [List.getElem?_set_ne hj] at h
      obtain ⟨o, p1, p2⟩ := e.slot j k h
      refine ⟨o, p1, ?_⟩
      cases k with
      | any => trivial
      | rt => exact p2
      | dat d => exact p2
      | dd f => exact p2
      | ob sh fs =>
        obtain ⟨m, zs, e1, r1, r2, r3, r4, r5⟩ := p2
        subst e1
        have hm : m ≠ l := fun z => hj (e.dist i j l s sh ds fs hi h hl (by rw [← z]; exact p1))
        exact ⟨m, zs, rfl, r1, r2, r3, by rw [upd_ne hm]; exact r4, r5⟩
  · have own_of : ∀ (j : Nat) sh fs, (ρ.set i (.ob t es))[j]? = some (.ob sh fs) → ∃ sg gs, ρ[j]? = some (.ob sg gs) := fun j sh fs h => by
      by_cases hj : i = j
      · subst hj
        exact ⟨_, _, hi⟩
      · rw [List.getElem?_set_ne hj] at h
        exact ⟨_, _, h⟩
    obtain ⟨s1, g1, k1⟩ := own_of j _ _ h1'
    obtain ⟨s2, g2, k2⟩ := own_of k _ _ h2'
    exact e.dist j k m s1 s2 g1 g2 k1 k2 h3' h4'
theorem Env.write (e : Env K W D0 H0 D H σ ρ) {i : Nat} {l : Addr} {ds es : List PyData} {ys : List V} (hi : ρ[i]? = some (.own ds)) (hl : σ[i]? = some (some (.ref l))) (hy : DqA K D ys es) :
    Env K W D0 H0 D (upd H l (.lst ys)) σ (ρ.set i (.own es)) := e.writeO (t := .lst) hi hl hy
theorem Env.setAny (e : Env K W D0 H0 D H σ ρ) {i : Nat} {v : Option V} (hi : i < ρ.length) : Env K W D0 H0 D H (σ.set i v) (ρ.set i .any) where
  ok0 := e.ok0
  st := e.st
  slot := fun j k h => by
    have hσ : i < σ.length := e.lt (List.getElem?_eq_getElem hi)
    by_cases hj : i = j
    · subst hj
      rw [List.getElem?_set_self hi] at h
      cases h
      exact ⟨v, List.getElem?_set_self hσ, trivial⟩
    · rw [List.getElem?_set_ne hj] at h
      obtain ⟨o, h1, h2⟩ := e.slot j k h
      exact ⟨o, by rw [List.getElem?_set_ne hj]; exact h1, h2⟩
  dist := fun j k l sh th ds es h1 h2 h3 h4 => by
    by_cases hj : i = j
    · subst hj
      rw [List.getElem?_set_self hi] at h1
      cases h1
    · by_cases hk : i = k
      · subst hk
        rw [List.getElem?_set_self hi] at h2
        cases h2
      · rw [List.getElem?_set_ne hj] at h1 h3
        rw [List.getElem?_set_ne hk] at h2 h4
        exact e.dist j k l sh th ds es h1 h2 h3 h4
end

/-! ### what evaluates to what -/
section
variable (K : PySem.W.Frag) (W : Fx)
def EvN (te : TE) (ρ : List Sk) (P : PyData → Prop) : Prop := ∀ D0 H0 D H σ, Env K W D0 H0 D H σ ρ → ∀ Q : VK,
  (∀ v D' H' d, Step W D H D' H' → Dq K D' v d → P d → Q v H') → te σ H Q
def EvT (tt : TT) (ρ : List Sk) (P : Bool → Prop) : Prop := ∀ D0 H0 D H σ, Env K W D0 H0 D H σ ρ → ∀ Q : Bool → Hp → Prop,
  (∀ b D' H', Step W D H D' H' → P b → Q b H') → tt σ H Q
def EvA (ta : TA) (ρ : List Sk) (P : List PyData → Prop) : Prop := ∀ D0 H0 D H σ, Env K W D0 H0 D H σ ρ → ∀ Q : List V → Hp → Prop,
  (∀ vs D' H' ds, Step W D H D' H' → DqA K D' vs ds → P ds → Q vs H') → ta σ H Q
/-- a new list -/
def EvF (te : TE) (ρ : List Sk) (P : List PyData → Prop) : Prop := ∀ D0 H0 D H σ, Env K W D0 H0 D H σ ρ → ∀ Q : VK,
  (∀ l xs D' H' ds, Step W D H D' H' → H l = none → D' l = none → H' l = some (.lst xs) → DqA K D' xs ds → P ds → Q (.ref l) H') → te σ H Q
/-- a list to be read -/
def EvB (te : TE) (ρ : List Sk) (P : List PyData → Prop) : Prop := ∀ D0 H0 D H σ, Env K W D0 H0 D H σ ρ → ∀ Q : VK,
  (∀ l xs D' H' ds, Step W D H D' H' → SqL K H' l xs → DqA K D' xs ds → P ds → Q (.ref l) H') → te σ H Q
/-- an operation on data -/
def RD (r : R2) (d1 d2 : PyData) (P : PyData → Prop) : Prop := ∀ D H x y, Ok W D H → Dq K D x d1 → Dq K D y d2 → ∀ Q : VK,
  (∀ v D' H' d, Step W D H D' H' → Dq K D' v d → P d → Q v H') → r x y H Q
/-- an expression that may raise -/
def EvR (EX : Hp → Prop) (te : TE) (ρ : List Sk) (P : PyData → Prop) (R : Prop) : Prop := ∀ D0 H0 D H σ, Env K W D0 H0 D H σ ρ → ∀ Q : VK,
  (∀ v D' H' d, Step W D H D' H' → Dq K D' v d → P d → Q v H') → (∀ D' H', Step W D H D' H' → R → EX H') → te σ H Q
def RC (r : List V → Hp → VK → Prop) (ds : List PyData) (P : PyData → Prop) : Prop := ∀ D H vs, Ok W D H → DqA K D vs ds → ∀ Q : VK,
  (∀ v D' H' d, Step W D H D' H' → Dq K D' v d → P d → Q v H') → r vs H Q
end

structure Out where
  nx : List Sk → Prop
  rt : PyData → Prop
  bk : List Sk → Prop := fun _ => False
  ct : List Sk → Prop := fun _ => False
  xr : Prop := False

/-- a block, in a def that began at D0, H0 -/
def StG (K : PySem.W.Frag) (W : Fx) (EX : Hp → Prop) (ts : TS) (ρ : List Sk) (O : Out) : Prop := ∀ D0 H0 D H σ (Dn : Ends), Env K W D0 H0 D H σ ρ →
  (∀ σ' D' H' ρ', Same D D' → Env K W D0 H0 D' H' σ' ρ' → O.nx ρ' → Dn.nx σ' H') →
  (∀ σ' D' H' ρ', Same D D' → Env K W D0 H0 D' H' σ' ρ' → O.bk ρ' → Dn.bk σ' H') →
  (∀ σ' D' H' ρ', Same D D' → Env K W D0 H0 D' H' σ' ρ' → O.ct ρ' → Dn.ct σ' H') →
  (∀ v D' H' d, Step W D0 H0 D' H' → Dq K D' v d → O.rt d → Dn.rt v H') →
  (∀ D' H', Step W D0 H0 D' H' → O.xr → EX H') → ts Dn σ H
end Dl

/-! ## The rules of the logic -/
namespace Dl
open PySem PySem.Spec L2

section
variable {K : PySem.W.Frag} {W : Fx} {ρ : List Sk} {P P1 P2 : PyData → Prop} {ta tb tc te : TE} {d d1 d2 : PyData}

abbrev EvD (K : PySem.W.Frag) (W : Fx) (te : TE) (ρ : List Sk) (d : PyData) : Prop := EvN K W te ρ (· = d)
theorem EvN.imp (h : EvN K W te ρ P1) (f : ∀ d, P1 d → P2 d) : EvN K W te ρ P2 := fun D0 H0 D H σ e Q q =>
  h D0 H0 D H σ e Q fun v D' H' d s r p => q v D' H' d s r (f d p)
theorem EvT.imp {tt : TT} {P1 P2 : Bool → Prop} (h : EvT K W tt ρ P1) (f : ∀ d, P1 d → P2 d) : EvT K W tt ρ P2 := fun D0 H0 D H σ e Q q =>
  h D0 H0 D H σ e Q fun v D' H' s p => q v D' H' s (f v p)
theorem EvA.imp {ta : TA} {P1 P2 : List PyData → Prop} (h : EvA K W ta ρ P1) (f : ∀ d, P1 d → P2 d) : EvA K W ta ρ P2 := fun D0 H0 D H σ e Q q =>
  h D0 H0 D H σ e Q fun v D' H' ds s r p => q v D' H' ds s r (f ds p)
theorem EvF.imp {P1 P2 : List PyData → Prop} (h : EvF K W te ρ P1) (f : ∀ d, P1 d → P2 d) : EvF K W te ρ P2 := fun D0 H0 D H σ e Q q =>
  h D0 H0 D H σ e Q fun l xs D' H' ds s a b c r p => q l xs D' H' ds s a b c r (f ds p)
theorem EvB.imp {P1 P2 : List PyData → Prop} (h : EvB K W te ρ P1) (f : ∀ d, P1 d → P2 d) : EvB K W te ρ P2 := fun D0 H0 D H σ e Q q =>
  h D0 H0 D H σ e Q fun l xs D' H' ds s a r p => q l xs D' H' ds s a r (f ds p)

/-! names, constants -/
theorem ev_var {i : Nat} (h : ρ[i]? = some (.dat d)) : EvD K W (tVar i) ρ d := fun D0 H0 D H σ e Q q => by
  obtain ⟨o, h1, v, h2, h3⟩ := e.slot i _ h
  subst h2
  exact ⟨v, h1, q v D H d (.refl e.ok) h3 rfl⟩
theorem ev_k {v : V} (h : ∀ D, Dq K D v d) : EvD K W (tC v) ρ d := fun D0 H0 D H σ e Q q => q v D H d (.refl e.ok) (h D) rfl
theorem ev_int {i : Int} : EvD K W (tC (.int i)) ρ (.int i) := ev_k fun _ => .int i
theorem ev_str {x : Str} : EvD K W (tC (.str x)) ρ (.str x) := ev_k fun _ => .str x
theorem ev_bl {b : Bool} : EvD K W (tC (.bl b)) ρ (.bool b) := ev_k fun _ => .bl b
theorem ev_non : EvD K W (tC .non) ρ .none := ev_k fun _ => .non

/-! operations -/
theorem ev_op {r : R2} (ha : EvN K W ta ρ P1) (hb : EvN K W tb ρ P2) (hr : ∀ d1 d2, P1 d1 → P2 d2 → RD K W r d1 d2 P) : EvN K W (tOp r ta tb) ρ P := fun D0 H0 D H σ e Q q =>
  ha D0 H0 D H σ e _ fun x D1 H1 d1 s1 q1 p1 => hb D0 H0 D1 H1 σ (e.step s1) _ fun y D2 H2 d2 s2 q2 p2 =>
    hr d1 d2 p1 p2 D2 H2 x y (s2.ok (s1.ok e.ok)) (q1.up s2.gro) q2 Q fun v D3 H3 d s3 q3 p3 => q v D3 H3 d ((s1.trans e.ok s2).trans e.ok s3) q3 p3
theorem ev_opD {r : R2} (ha : EvD K W ta ρ d1) (hb : EvD K W tb ρ d2) (hr : RD K W r d1 d2 P) : EvN K W (tOp r ta tb) ρ P :=
  ev_op ha hb fun _ _ h1 h2 => by
    subst h1
    subst h2
    exact hr
theorem ev_un {r : V → Hp → VK → Prop} (ha : EvN K W ta ρ P1) (hr : ∀ d1, P1 d1 → ∀ D H x, Ok W D H → Dq K D x d1 → ∀ Q : VK, (∀ v D' H' d, Step W D H D' H' → Dq K D' v d → P d → Q v H') → r x H Q) :
    EvN K W (tUn r ta) ρ P := fun D0 H0 D H σ e Q q =>
  ha D0 H0 D H σ e _ fun x D1 H1 d1 s1 q1 p1 => hr d1 p1 D1 H1 x (s1.ok e.ok) q1 Q fun v D3 H3 d s3 q3 p3 => q v D3 H3 d (s1.trans e.ok s3) q3 p3
theorem ev_cb {r : List V → Hp → VK → Prop} {ta : TA} {PA : List PyData → Prop} (ha : EvA K W ta ρ PA) (hr : ∀ ds, PA ds → RC K W r ds P) : EvN K W (tCB r ta) ρ P := fun D0 H0 D H σ e Q q =>
  ha D0 H0 D H σ e _ fun vs D1 H1 ds s1 q1 p1 => hr ds p1 D1 H1 vs (s1.ok e.ok) q1 Q fun v D3 H3 d s3 q3 p3 => q v D3 H3 d (s1.trans e.ok s3) q3 p3
theorem ea_nil : EvA K W tNil ρ (· = []) := fun D0 H0 D H σ e Q q => q [] D H [] (.refl e.ok) .nil rfl
theorem ea_cons {tr : TA} {PA : List PyData → Prop} (h : EvN K W te ρ P) (hr : EvA K W tr ρ PA) : EvA K W (tCons te tr) ρ (fun ds => ∃ d r, ds = d :: r ∧ P d ∧ PA r) := fun D0 H0 D H σ e Q q =>
  h D0 H0 D H σ e _ fun x D1 H1 d s1 q1 p1 => hr D0 H0 D1 H1 σ (e.step s1) _ fun vs D2 H2 ds s2 q2 p2 => q (x :: vs) D2 H2 (d :: ds) (s1.trans e.ok s2) (.cons (q1.up s2.gro) q2) ⟨d, ds, rfl, p1, p2⟩
theorem ea_consD {tr : TA} {ds : List PyData} (h : EvD K W te ρ d) (hr : EvA K W tr ρ (· = ds)) : EvA K W (tCons te tr) ρ (· = d :: ds) :=
  (ea_cons h hr).imp fun _ ⟨_, _, e, h1, h2⟩ => by
    subst h1
    subst h2
    exact e
theorem ev_cbD {r : List V → Hp → VK → Prop} {ta : TA} {ds : List PyData} (ha : EvA K W ta ρ (· = ds)) (hr : RC K W r ds P) : EvN K W (tCB r ta) ρ P :=
  ev_cb ha fun _ h => by
    subst h
    exact hr
theorem ev_tup {ta : TA} {PA : List PyData → Prop} (h : EvA K W ta ρ PA) (hl : ∀ ds, PA ds → ds.length ≤ sizeLine) : EvN K W (tTup ta) ρ (fun d => ∃ ds, PA ds ∧ d = .tuple ds) := fun D0 H0 D H σ e Q q =>
  h D0 H0 D H σ e _ fun vs D1 H1 ds s1 q1 p1 => ⟨by rw [q1.len]; exact hl ds p1, fun p hp => by
    have s2 : Step W D1 H1 (upd D1 p (.tup vs)) (upd H1 p (.tup vs)) := .made (s1.ok e.ok) hp
    exact q (.ref p) _ _ (.tuple ds) (s1.trans e.ok s2) (.tup (Or.inl (Or.inl upd_same)) (q1.up s2.gro)) ⟨ds, p1, rfl⟩⟩
theorem ev_tupD {ta : TA} {ds : List PyData} (h : EvA K W ta ρ (· = ds)) (hl : ds.length ≤ sizeLine) : EvD K W (tTup ta) ρ (.tuple ds) :=
  (ev_tup h fun _ e => by
    subst e
    exact hl).imp fun _ ⟨_, e1, e2⟩ => by
      subst e1
      exact e2
theorem evf_lst {ta : TA} {PA : List PyData → Prop} (h : EvA K W ta ρ PA) (hl : ∀ ds, PA ds → ds.length ≤ sizeLine) : EvF K W (tLst ta) ρ PA := fun D0 H0 D H σ e Q q =>
  h D0 H0 D H σ e _ fun vs D1 H1 ds s1 q1 p1 => ⟨by rw [q1.len]; exact hl ds p1, fun p hp => by
    have hH : H p = none := by
      cases z : H p with
      | none => rfl
      | some u =>
        by_cases hw : W.adr p
        · exact (W.has H1 p s1.inv hw hp).elim
        · rw [s1.off p u hw z] at hp
          cases hp
    have o1 := s1.ok e.ok
    have s2 : Step W D1 H1 D1 (upd H1 p (.lst vs)) := .keptH o1 (same_new hp)
    exact q p vs D1 _ ds (s1.trans e.ok s2) hH (o1.sub.free hp) upd_same q1 p1⟩
theorem EvF.ev {PA : List PyData → Prop} (h : EvF K W te ρ PA) : EvN K W te ρ (fun d => ∃ ds, PA ds ∧ d = .list ds) := fun D0 H0 D H σ e Q q =>
  h D0 H0 D H σ e _ fun l xs D1 H1 ds s1 a b c q1 p1 => q (.ref l) _ H1 (.list ds) (s1.told a b c) (.lst (Or.inl (Or.inl upd_same)) (q1.up (same_new b))) ⟨ds, p1, rfl⟩
theorem EvF.evD {ds : List PyData} (h : EvF K W te ρ (· = ds)) : EvD K W te ρ (.list ds) := h.ev.imp fun _ ⟨_, e1, e2⟩ => by
  subst e1
  exact e2
theorem EvF.evB {PA : List PyData → Prop} (h : EvF K W te ρ PA) : EvB K W te ρ PA := fun D0 H0 D H σ e Q q =>
  h D0 H0 D H σ e _ fun l xs D1 H1 ds s1 a b c q1 p1 => q l xs D1 H1 ds s1 (Or.inl (Or.inl c)) q1 p1
theorem EvN.evB {PA : List PyData → Prop} (h : EvN K W te ρ (fun d => ∃ ds, PA ds ∧ d = .list ds)) : EvB K W te ρ PA := fun D0 H0 D H σ e Q q =>
  h D0 H0 D H σ e _ fun v D1 H1 d s1 q1 ⟨ds, p1, e1⟩ => by
    subst e1
    cases q1 with
    | lst h1 h2 => exact q _ _ D1 H1 ds s1 (same_l s1.sub h1) h2 p1
theorem EvN.evBD {ds : List PyData} (h : EvD K W te ρ (.list ds)) : EvB K W te ρ (· = ds) := EvN.evB (h.imp fun _ e => ⟨ds, rfl, e⟩)
theorem evb_own {i : Nat} {ds : List PyData} (h : ρ[i]? = some (.own ds)) : EvB K W (tVar i) ρ (· = ds) := fun D0 H0 D H σ e Q q => by
  obtain ⟨o, h1, l, xs, h2, h3, h4, h5, h6, h7⟩ := e.slot i _ h
  subst h2
  exact ⟨_, h1, q l xs D H ds (.refl e.ok) (Or.inl (Or.inl h6)) h7 rfl⟩
/-- a list of one's own becomes data (it is not changed any more) -/
theorem ev_own {i : Nat} {ds : List PyData} (h : ρ[i]? = some (.own ds)) : ∀ D0 H0 D H σ, Env K W D0 H0 D H σ ρ → ∀ Q : VK,
    (∀ v D' , Step W D0 H0 D' H → Dq K D' v (.list ds) → Q v H) → tVar i σ H Q := fun D0 H0 D H σ e Q q => by
  obtain ⟨o, h1, l, xs, h2, h3, h4, h5, h6, h7⟩ := e.slot i _ h
  subst h2
  exact ⟨_, h1, q _ _ (e.st.told h4 h3 h6) (.lst (Or.inl (Or.inl upd_same)) (h7.up (same_new h3)))⟩

/-! tests -/
variable {tt tu : TT} {PT PU : Bool → Prop}
theorem et_test (h : EvN K W te ρ P) (f : ∀ d, P d → ∃ b, d = .bool b ∧ PT b) : EvT K W (tTest te) ρ PT := fun D0 H0 D H σ e Q q =>
  h D0 H0 D H σ e _ fun v D1 H1 d s1 q1 p1 => by
    obtain ⟨b, e1, p2⟩ := f d p1
    subst e1
    cases q1
    exact ⟨b, rfl, q b D1 H1 s1 p2⟩
theorem et_testD {b : Bool} (h : EvD K W te ρ (.bool b)) : EvT K W (tTest te) ρ (· = b) := et_test h fun _ e => ⟨b, e, rfl⟩
theorem et_B (h : EvN K W te ρ P) (f : ∀ d, P d → ∃ b, d = .bool b ∧ PT b) : EvT K W (tB te) ρ PT := et_test h f
theorem et_BD {b : Bool} (h : EvD K W te ρ (.bool b)) : EvT K W (tB te) ρ (· = b) := et_testD h
theorem et_not (h : EvT K W tt ρ PT) : EvT K W (tNot tt) ρ (fun b => PT (!b)) := fun D0 H0 D H σ e Q q =>
  h D0 H0 D H σ e _ fun b D1 H1 s1 p1 => q (!b) D1 H1 s1 (show PT (!!b) by rw [Bool.not_not]; exact p1)
theorem et_notD {b : Bool} (h : EvT K W tt ρ (· = b)) : EvT K W (tNot tt) ρ (· = !b) := (et_not h).imp fun c e => by
  rw [← e, Bool.not_not]
theorem et_and (h1 : EvT K W tt ρ PT) (h2 : PT true → EvT K W tu ρ PU) (hf : PT false → PU false) : EvT K W (tAnd tt tu) ρ PU := fun D0 H0 D H σ e Q q =>
  h1 D0 H0 D H σ e _ fun b D1 H1 s1 p1 => by
    cases b with
    | true => exact iteT (h2 p1 D0 H0 D1 H1 σ (e.step s1) _ fun c D2 H2 s2 p2 => q c D2 H2 (s1.trans e.ok s2) p2)
    | false => exact iteF (q false D1 H1 s1 (hf p1))
theorem et_or (h1 : EvT K W tt ρ PT) (h2 : PT false → EvT K W tu ρ PU) (hf : PT true → PU true) : EvT K W (tOr tt tu) ρ PU := fun D0 H0 D H σ e Q q =>
  h1 D0 H0 D H σ e _ fun b D1 H1 s1 p1 => by
    cases b with
    | true => exact iteT (q true D1 H1 s1 (hf p1))
    | false => exact iteF (h2 p1 D0 H0 D1 H1 σ (e.step s1) _ fun c D2 H2 s2 p2 => q c D2 H2 (s1.trans e.ok s2) p2)
theorem et_andD {b c : Bool} (h1 : EvT K W tt ρ (· = b)) (h2 : b = true → EvT K W tu ρ (· = c)) : EvT K W (tAnd tt tu) ρ (· = (b && c)) := by
  refine et_and h1 (fun e => ?_) (fun e => ?_)
  · subst e
    exact (h2 rfl).imp fun _ e => by rw [e, Bool.true_and]
  · subst e
    rfl
theorem et_orD {b c : Bool} (h1 : EvT K W tt ρ (· = b)) (h2 : b = false → EvT K W tu ρ (· = c)) : EvT K W (tOr tt tu) ρ (· = (b || c)) := by
  refine et_or h1 (fun e => ?_) (fun e => ?_)
  · subst e
    exact (h2 rfl).imp fun _ e => by rw [e, Bool.false_or]
  · subst e
    rfl
theorem ev_if (h : EvT K W tt ρ PT) (ha : PT true → EvN K W ta ρ P) (hb : PT false → EvN K W tb ρ P) : EvN K W (tIf tt ta tb) ρ P := fun D0 H0 D H σ e Q q =>
  h D0 H0 D H σ e _ fun b D1 H1 s1 p1 => by
    cases b with
    | true => exact iteT (ha p1 D0 H0 D1 H1 σ (e.step s1) _ fun v D2 H2 d s2 q2 p2 => q v D2 H2 d (s1.trans e.ok s2) q2 p2)
    | false => exact iteF (hb p1 D0 H0 D1 H1 σ (e.step s1) _ fun v D2 H2 d s2 q2 p2 => q v D2 H2 d (s1.trans e.ok s2) q2 p2)
theorem ev_ifD {b : Bool} (h : EvT K W tt ρ (· = b)) (ha : b = true → EvN K W ta ρ P) (hb : b = false → EvN K W tb ρ P) : EvN K W (tIf tt ta tb) ρ P :=
  ev_if h (fun e => ha e.symm) (fun e => hb e.symm)
theorem ev_and {b c : Bool} (h1 : EvD K W ta ρ (.bool b)) (h2 : b = true → EvD K W tb ρ (.bool c)) : EvD K W (tAndV ta tb) ρ (.bool (b && c)) := fun D0 H0 D H σ e Q q =>
  h1 D0 H0 D H σ e _ fun v D1 H1 d s1 q1 p1 => by
    subst p1
    cases q1
    refine ⟨b, rfl, ?_⟩
    cases b with
    | true => exact iteT (h2 rfl D0 H0 D1 H1 σ (e.step s1) _ fun v D2 H2 d s2 q2 p2 => q v D2 H2 d (s1.trans e.ok s2) q2 (by rw [p2, Bool.true_and]))
    | false => exact iteF (q _ D1 H1 _ s1 (.bl false) rfl)
theorem ev_or {b c : Bool} (h1 : EvD K W ta ρ (.bool b)) (h2 : b = false → EvD K W tb ρ (.bool c)) : EvD K W (tOrV ta tb) ρ (.bool (b || c)) := fun D0 H0 D H σ e Q q =>
  h1 D0 H0 D H σ e _ fun v D1 H1 d s1 q1 p1 => by
    subst p1
    cases q1
    refine ⟨b, rfl, ?_⟩
    cases b with
    | true => exact iteT (q _ D1 H1 _ s1 (.bl true) rfl)
    | false => exact iteF (h2 rfl D0 H0 D1 H1 σ (e.step s1) _ fun v D2 H2 d s2 q2 p2 => q v D2 H2 d (s1.trans e.ok s2) q2 (by rw [p2, Bool.false_or]))
theorem ev_not {b : Bool} (h1 : EvD K W ta ρ (.bool b)) : EvD K W (tNotV ta) ρ (.bool (!b)) := fun D0 H0 D H σ e Q q =>
  h1 D0 H0 D H σ e _ fun v D1 H1 d s1 q1 p1 => by
    subst p1
    cases q1
    exact ⟨b, rfl, q _ D1 H1 _ s1 (.bl _) rfl⟩

/-! operations on data -/
theorem rd_I0 {g : Int → Int → V} {i j : Int} (h : ∀ D, Dq K D (g i j) d) : RD K W (rI0 g) (.int i) (.int j) (· = d) := fun D H x y o hx hy Q q => by
  cases hx
  cases hy
  exact ⟨i, j, rfl, rfl, q _ D H d (.refl o) (h D) rfl⟩
theorem rd_I {C : Int → Int → Prop} {g : Int → Int → V} {i j : Int} (hc : C i j) (h : ∀ D, Dq K D (g i j) d) : RD K W (rI C g) (.int i) (.int j) (· = d) := fun D H x y o hx hy Q q => by
  cases hx
  cases hy
  exact ⟨i, j, rfl, rfl, hc, q _ D H d (.refl o) (h D) rfl⟩
theorem rd_eqQ {neg : Bool} (h1 : SeqAt.shaped d1 = true) (h2 : SeqAt.shaped d2 = true) : RD K W (rEqQ K neg) d1 d2 (· = .bool (if neg = true then !PyData.eqv d1 d2 else PyData.eqv d1 d2)) := fun D H x y o hx hy Q q =>
  ⟨d1, d2, hx.up o.sub, hy.up o.sub, h1, h2, q _ D H _ (.refl o) (.bl _) rfl⟩
theorem rc_repr (h1 : d.showable = true) (h2 : d.hasDict = false) (h3 : d.depth ≤ 60) (h4 : d.shown.length ≤ sizeLine) : RC K W (rRepr K) [d] (· = .str d.shown) := fun D H vs o hv Q q => by
  cases hv with
  | cons hx hn =>
    cases hn
    exact ⟨_, d, rfl, hx.up o.sub, h1, h2, h3, h4, q _ D H _ (.refl o) (.str _) rfl⟩
end

/-! ### blocks -/
section
variable {K : PySem.W.Frag} {W : Fx} {EX : Hp → Prop} {ρ : List Sk} {P : PyData → Prop} {te : TE} {tt : TT} {PT : Bool → Prop} {t1 t2 tr : TS} {O : Out} {i : Nat}

theorem st_next (h : O.nx ρ) : StG K W EX tNext ρ O := fun D0 H0 D H σ Dn e k _ _ _ _ => k σ D H ρ (Same.refl D) e h
theorem st_nextSeq (h : StG K W EX tr ρ O) : StG K W EX (tSeq tNext tr) ρ O := h
theorem st_seq {N : List Sk → Prop} (h1 : StG K W EX t1 ρ { O with nx := N }) (h2 : ∀ ρ', N ρ' → StG K W EX tr ρ' O) : StG K W EX (tSeq t1 tr) ρ O := fun D0 H0 D H σ Dn e kn kb kc kr kx =>
  h1 D0 H0 D H σ { Dn with nx := tr Dn } e (fun σ' D' H' ρ' g e' n => h2 ρ' n D0 H0 D' H' σ' Dn e' (fun a b c x g2 => kn a b c x (g.trans g2)) (fun a b c x g2 => kb a b c x (g.trans g2)) (fun a b c x g2 => kc a b c x (g.trans g2)) kr kx) kb kc kr kx
theorem st_ret (h : EvN K W te ρ O.rt) : StG K W EX (tRet te) ρ O := fun D0 H0 D H σ Dn e _ _ _ kr kx => h D0 H0 D H σ e _ fun v D' H' d s q p => kr v D' H' d (e.st.trans e.ok0 s) q p
theorem st_retOwn {ds : List PyData} (h : ρ[i]? = some (.own ds)) (hr : O.rt (.list ds)) : StG K W EX (tRet (tVar i)) ρ O := fun D0 H0 D H σ Dn e _ _ _ kr kx => ev_own h D0 H0 D H σ e _ fun v D' s q => kr v D' H _ s q hr
theorem st_set (hi : i < ρ.length) (h : EvN K W te ρ P) (k : ∀ d, P d → StG K W EX tr (ρ.set i (.dat d)) O) : StG K W EX (tSeq (tAsg te (gName i)) tr) ρ O := fun D0 H0 D H σ Dn e kn kb kc kr kx =>
  h D0 H0 D H σ e _ fun v D' H' d s q p => k d p D0 H0 D' H' _ Dn ((e.step s).set hi q) (fun a b c x g2 => kn a b c x (s.gro.trans g2)) (fun a b c x g2 => kb a b c x (s.gro.trans g2)) (fun a b c x g2 => kc a b c x (s.gro.trans g2)) kr kx
theorem st_setD {d : PyData} (hi : i < ρ.length) (h : EvD K W te ρ d) (k : StG K W EX tr (ρ.set i (.dat d)) O) : StG K W EX (tSeq (tAsg te (gName i)) tr) ρ O := st_set hi h fun _ e => by
  subst e
  exact k
/-- a last statement -/
theorem st_last (h : StG K W EX (tSeq t1 tNext) ρ O) : StG K W EX t1 ρ O := fun D0 H0 D H σ Dn e kn kb kc kr kx => h D0 H0 D H σ Dn e kn kb kc kr kx
theorem st_setOwn {PA : List PyData → Prop} (hi : i < ρ.length) (h : EvF K W te ρ PA) (k : ∀ ds, PA ds → StG K W EX tr (ρ.set i (.own ds)) O) : StG K W EX (tSeq (tAsg te (gName i)) tr) ρ O := fun D0 H0 D H σ Dn e kn kb kc kr kx =>
  h D0 H0 D H σ e _ fun l xs D' H' ds s hn hd hl q p => by
    have e1 := e.step s
    have h0 : H0 l = none := by
      cases z : H0 l with
      | none => rfl
      | some u =>
        by_cases hw : W.adr l
        · exact (W.has H l e.st.inv hw hn).elim
        · rw [e.st.off l u hw z] at hn
          cases hn
    have hw : ¬ W.adr l := fun hw => W.has H l e.st.inv hw hn
    refine k ds p D0 H0 D' H' _ Dn (e1.setOwn (s := .lst) hi hd h0 hw hl q fun j t es hj hj1 hj2 => ?_) (fun a b c x g2 => kn a b c x (s.gro.trans g2)) (fun a b c x g2 => kb a b c x (s.gro.trans g2)) (fun a b c x g2 => kc a b c x (s.gro.trans g2)) kr kx
    obtain ⟨o, q1, m, ys, q2, q3, q4, q5, q6, q7⟩ := e.slot j _ hj1
    rw [hj2] at q1
    cases q1
    cases q2
    rw [hn] at q6
    cases q6
theorem st_if (h : EvT K W tt ρ PT) (h1 : PT true → StG K W EX (tSeq t1 tr) ρ O) (h2 : PT false → StG K W EX (tSeq t2 tr) ρ O) : StG K W EX (tSeq (tIfS tt t1 t2) tr) ρ O := fun D0 H0 D H σ Dn e kn kb kc kr kx =>
  h D0 H0 D H σ e _ fun b D' H' s p => by
    have e1 := e.step s
    cases b with
    | true => exact iteT (h1 p D0 H0 D' H' σ Dn e1 (fun a b c x g2 => kn a b c x (s.gro.trans g2)) (fun a b c x g2 => kb a b c x (s.gro.trans g2)) (fun a b c x g2 => kc a b c x (s.gro.trans g2)) kr kx)
    | false => exact iteF (h2 p D0 H0 D' H' σ Dn e1 (fun a b c x g2 => kn a b c x (s.gro.trans g2)) (fun a b c x g2 => kb a b c x (s.gro.trans g2)) (fun a b c x g2 => kc a b c x (s.gro.trans g2)) kr kx)
theorem st_ifD {b : Bool} (h : EvT K W tt ρ (· = b)) (h1 : b = true → StG K W EX (tSeq t1 tr) ρ O) (h2 : b = false → StG K W EX (tSeq t2 tr) ρ O) : StG K W EX (tSeq (tIfS tt t1 t2) tr) ρ O :=
  st_if h (fun e => h1 e.symm) (fun e => h2 e.symm)
theorem st_retSeq (h : EvN K W te ρ O.rt) : StG K W EX (tSeq (tRet te) tr) ρ O := fun D0 H0 D H σ Dn e _ _ _ kr kx => h D0 H0 D H σ e _ fun v D' H' d s q p => kr v D' H' d (e.st.trans e.ok0 s) q p
theorem st_drop (h : EvN K W te ρ P) (k : StG K W EX tr ρ O) : StG K W EX (tSeq (tDrop te) tr) ρ O := fun D0 H0 D H σ Dn e kn kb kc kr kx =>
  h D0 H0 D H σ e _ fun v D' H' d s q p => k D0 H0 D' H' _ Dn (e.step s) (fun a b c x g2 => kn a b c x (s.gro.trans g2)) (fun a b c x g2 => kb a b c x (s.gro.trans g2)) (fun a b c x g2 => kc a b c x (s.gro.trans g2)) kr kx
/-- xs.append(e) -/
theorem st_append {ds : List PyData} (hρ : ρ[i]? = some (.own ds)) (hz : ds.length < sizeLine) {r : V → List V → Hp → VK → Prop}
    (hr : ∀ l x xs H Q, H l = some (.lst xs) → xs.length < sizeLine → Q V.non (upd H l (.lst (xs ++ [x]))) → r (.ref l) [x] H Q)
    (h : EvN K W te ρ P) (k : ∀ d, P d → StG K W EX tr (ρ.set i (.own (ds ++ [d]))) O) : StG K W EX (tSeq (tDrop (tBM K "list" r (tVar i) (tCons te tNil))) tr) ρ O := fun D0 H0 D H σ Dn e kn kb kc kr kx => by
  obtain ⟨o, q1, l, xs, q2, q3, q4, q5, q6, q7⟩ := e.slot i _ hρ
  subst q2
  refine ⟨.ref l, q1, Or.inl ⟨rfl, _, Or.inl (Or.inl q6)⟩, ?_⟩
  refine h D0 H0 D H σ e _ fun v D' H' d s q p => ?_
  have e1 := e.step s
  obtain ⟨o', r1, l', xs', r2, r3, r4, r5, r6, r7⟩ := e1.slot i _ hρ
  rw [q1] at r1
  cases r1
  cases r2
  refine hr l v xs' H' _ r6 (by rw [r7.len]; exact hz) ?_
  exact k d p D0 H0 D' _ σ Dn (e1.write hρ q1 (r7.app (.cons q .nil))) (fun a b c x g2 => kn a b c x (s.gro.trans g2)) (fun a b c x g2 => kb a b c x (s.gro.trans g2)) (fun a b c x g2 => kc a b c x (s.gro.trans g2)) kr kx
/-! what may raise -/
theorem EvN.evr {R : Prop} (h : EvN K W te ρ P) : EvR K W EX te ρ P R := fun D0 H0 D H σ e Q q _ => h D0 H0 D H σ e Q q
theorem EvR.imp {P2 : PyData → Prop} {R R2 : Prop} (h : EvR K W EX te ρ P R) (f : ∀ d, P d → P2 d) (g : R → R2) : EvR K W EX te ρ P2 R2 := fun D0 H0 D H σ e Q q x =>
  h D0 H0 D H σ e Q (fun v D' H' d s r p => q v D' H' d s r (f d p)) fun D' H' s r => x D' H' s (g r)
theorem evr_op {r : R2} {ta tb : TE} {P1 P2 : PyData → Prop} {R1 R2' : Prop} (ha : EvR K W EX ta ρ P1 R1) (hb : ∀ d1, P1 d1 → EvR K W EX tb ρ P2 R2') (hr : ∀ d1 d2, P1 d1 → P2 d2 → RD K W r d1 d2 P) :
    EvR K W EX (tOp r ta tb) ρ P (R1 ∨ (∃ d, P1 d) ∧ R2') := fun D0 H0 D H σ e Q q x =>
  ha D0 H0 D H σ e _ (fun x1 D1 H1 d1 s1 q1 p1 => hb d1 p1 D0 H0 D1 H1 σ (e.step s1) _ (fun y D2 H2 d2 s2 q2 p2 =>
    hr d1 d2 p1 p2 D2 H2 x1 y (s2.ok (s1.ok e.ok)) (q1.up s2.gro) q2 Q fun v D3 H3 d s3 q3 p3 => q v D3 H3 d ((s1.trans e.ok s2).trans e.ok s3) q3 p3)
    fun D2 H2 s2 z => x D2 H2 (s1.trans e.ok s2) (Or.inr ⟨⟨d1, p1⟩, z⟩)) fun D1 H1 s1 z => x D1 H1 s1 (Or.inl z)
theorem st_setR {R : Prop} (hi : i < ρ.length) (h : EvR K W EX te ρ P R) (k : ∀ d, P d → StG K W EX tr (ρ.set i (.dat d)) O) (hx : R → O.xr) : StG K W EX (tSeq (tAsg te (gName i)) tr) ρ O := fun D0 H0 D H σ Dn e kn kb kc kr kx =>
  h D0 H0 D H σ e _ (fun v D' H' d s q p => k d p D0 H0 D' H' _ Dn ((e.step s).set hi q) (fun a b c x g2 => kn a b c x (s.gro.trans g2)) (fun a b c x g2 => kb a b c x (s.gro.trans g2)) (fun a b c x g2 => kc a b c x (s.gro.trans g2)) kr kx)
    fun D' H' s r => kx D' H' (e.st.trans e.ok0 s) (hx r)
theorem st_retR {R : Prop} (h : EvR K W EX te ρ O.rt R) (hx : R → O.xr) : StG K W EX (tRet te) ρ O := fun D0 H0 D H σ Dn e _ _ _ kr kx =>
  h D0 H0 D H σ e _ (fun v D' H' d s q p => kr v D' H' d (e.st.trans e.ok0 s) q p) fun D' H' s r => kx D' H' (e.st.trans e.ok0 s) (hx r)
theorem st_retSeqR {R : Prop} (h : EvR K W EX te ρ O.rt R) (hx : R → O.xr) : StG K W EX (tSeq (tRet te) tr) ρ O := fun D0 H0 D H σ Dn e _ _ _ kr kx =>
  h D0 H0 D H σ e _ (fun v D' H' d s q p => kr v D' H' d (e.st.trans e.ok0 s) q p) fun D' H' s r => kx D' H' (e.st.trans e.ok0 s) (hx r)
theorem st_raise (hx : O.xr) : StG K W EX (fun _ _ H => EX H) ρ O := fun D0 H0 D H σ Dn e _ _ _ _ kx => kx D H e.st hx
theorem st_raiseSeq (hx : O.xr) : StG K W EX (tSeq (fun _ _ H => EX H) tr) ρ O := fun D0 H0 D H σ Dn e _ _ _ _ kx => kx D H e.st hx
theorem st_flat {t3 : TS} (h : StG K W EX (tSeq t1 (tSeq t2 t3)) ρ O) : StG K W EX (tSeq (tSeq t1 t2) t3) ρ O := h
end
end Dl

/-! ## Walks, targets, comprehensions, loops, calls -/
namespace Dl
open PySem PySem.Spec L2

section
variable (K : PySem.W.Frag) (W : Fx)
/-- an iterator that gives the items ds -/
def Walks (D : Hp) (J : It) (ds : List PyData) : Prop := ∀ i D1 H1, Ok W D1 H1 → Same D D1 →
  (∀ d, ds[i]? = some d → J.go i H1 ∧ ∀ x H2, J.yld i H1 x H2 → ∃ D2, Step W D1 H1 D2 H2 ∧ Dq K D2 x d) ∧ (ds.length ≤ i → J.stop i H1)
def EvI (wi : TI) (ρ : List Sk) (P : List PyData → Prop) : Prop := ∀ D0 H0 D H σ, Env K W D0 H0 D H σ ρ → ∀ R : It → Hp → Prop,
  (∀ J D' H' ds, Step W D H D' H' → Walks K W D' J ds → P ds → R J H') → wi σ H R
/-- a target takes d; only the slots js change -/
def EvG (g : TG) (ρ : List Sk) (d : PyData) (ρ' : List Sk) (js : List Nat) : Prop := ∀ D0 H0 D H σ, Env K W D0 H0 D H σ ρ → ∀ v, Dq K D v d → ∀ Q : L2.St → Hp → Prop,
  (∀ σ' D' H', Step W D H D' H' → Env K W D0 H0 D' H' σ' ρ' → σ'.length = σ.length → (∀ j, j ∉ js → σ'[j]? = σ[j]?) → Q σ' H') → g v σ H Q
end

section
variable {K : PySem.W.Frag} {W : Fx} {ρ ρ' : List Sk} {te : TE} {d : PyData} {ds : List PyData}
theorem eg_name {i : Nat} (hi : i < ρ.length) : EvG K W (gName i) ρ d (ρ.set i (.dat d)) [i] := fun D0 H0 D H σ e v q Q k =>
  k _ D H (.refl e.ok) (e.set hi q) (List.length_set ..) fun j hj => List.getElem?_set_ne (fun z => hj (by simp [z]))
theorem Walks.list {D : Hp} {a : Addr} {xs : List V} (h : SqL K D a xs) (q : DqA K D xs ds) : Walks K W D (Itl K a) ds := fun i D1 H1 o g => by
  have hs : SqL K H1 a xs := same_l (g.trans o.sub) h
  refine ⟨fun d hd => ?_, fun hi => ⟨xs, hs, by rw [q.len]; exact hi⟩⟩
  obtain ⟨v, hv, qv⟩ := q.at hd
  refine ⟨⟨xs, v, hs, hv⟩, fun x H2 y => ?_⟩
  obtain ⟨e, y⟩ := y
  subst e
  have e2 := y xs hs
  rw [hv] at e2
  cases e2
  exact ⟨D1, .refl o, qv.up g⟩
theorem Walks.tup {D : Hp} {a : Addr} {xs : List V} (h : SqT K D a xs) (q : DqA K D xs ds) : Walks K W D (Itt K a) ds := fun i D1 H1 o g => by
  have hs : SqT K H1 a xs := same_t (g.trans o.sub) h
  refine ⟨fun d hd => ?_, fun hi => ⟨xs, hs, by rw [q.len]; exact hi⟩⟩
  obtain ⟨v, hv, qv⟩ := q.at hd
  refine ⟨⟨xs, v, hs, hv⟩, fun x H2 y => ?_⟩
  obtain ⟨e, y⟩ := y
  subst e
  have e2 := y xs hs
  rw [hv] at e2
  cases e2
  exact ⟨D1, .refl o, qv.up g⟩
def ups (lo : Int) (n : Nat) : List PyData := (List.range n).map fun (i : Nat) => .int (lo + (i : Int))
theorem ups_len {lo : Int} {n : Nat} : (ups lo n).length = n := by unfold ups; rw [List.length_map, List.length_range]
theorem ups_at {lo : Int} {n i : Nat} {d : PyData} : (ups lo n)[i]? = some d ↔ i < n ∧ d = .int (lo + (i : Int)) := by
  unfold ups
  rw [List.getElem?_map]
  by_cases h : i < n
  · rw [List.getElem?_range h]
    simp [h, eq_comm]
  · rw [List.getElem?_eq_none (by simpa using h)]
    simp [h]
theorem Walks.rng {D : Hp} {lo : Int} {n : Nat} : Walks K W D (Itr lo n) (ups lo n) := fun i D1 H1 o g => by
  refine ⟨fun d hd => ?_, fun hi => by rw [ups_len] at hi; exact hi⟩
  obtain ⟨h1, h2⟩ := ups_at.mp hd
  subst h2
  refine ⟨h1, fun x H2 y => ?_⟩
  obtain ⟨e, y⟩ := y
  subst e
  subst y
  exact ⟨D1, .refl o, .int _⟩
theorem Walks.rngC {D : Hp} {lo c : Int} {n : Nat} : Walks K W D (Itc lo c n) ((List.range n).map fun (i : Nat) => .int (lo + (i : Int) * c)) := fun i D1 H1 o g => by
  refine ⟨fun d hd => ?_, fun hi => by
    show n ≤ i
    simpa using hi⟩
  rw [List.getElem?_map] at hd
  by_cases h : i < n
  · rw [List.getElem?_range h] at hd
    cases hd
    refine ⟨h, fun x H2 y => ?_⟩
    obtain ⟨e, y⟩ := y
    subst e
    subst y
    exact ⟨D1, .refl o, .int _⟩
  · rw [List.getElem?_eq_none (by simpa using h)] at hd
    cases hd
theorem Walks.str {D : Hp} {x : Str} : Walks K W D (Its x) (x.cps.toList.map fun c => .str ⟨#[c]⟩) := fun i D1 H1 o g => by
  refine ⟨fun d hd => ?_, fun hi => by
    show x.cps.size ≤ i
    simpa using hi⟩
  rw [List.getElem?_map, Array.getElem?_toList] at hd
  cases z : x.cps[i]? with
  | none =>
    rw [z] at hd
    cases hd
  | some c =>
    rw [z] at hd
    cases hd
    refine ⟨(Array.getElem?_eq_some_iff.mp z).1, fun v H2 y => ?_⟩
    obtain ⟨e, c', e1, e2⟩ := y
    subst e
    rw [z] at e1
    cases e1
    subst e2
    exact ⟨D1, .refl o, .str _⟩
def enums : Nat → List PyData → List PyData
  | _, [] => []
  | n, d :: ds => .tuple [.int ((n : Nat) : Int), d] :: enums (n + 1) ds
theorem enums_len : ∀ (n : Nat) (ds : List PyData), (enums n ds).length = ds.length
  | _, [] => rfl
  | n, _ :: ds => by rw [enums, List.length_cons, List.length_cons, enums_len]
theorem enums_at : ∀ {n : Nat} {ds : List PyData} {i : Nat} {e : PyData}, (enums n ds)[i]? = some e → ∃ d, ds[i]? = some d ∧ e = .tuple [.int ((n + i : Nat) : Int), d]
  | _, [], _, _, h => by simp [enums] at h
  | n, d :: ds, 0, _, h => by
    simp [enums] at h
    exact ⟨d, rfl, h.symm⟩
  | n, d :: ds, i + 1, _, h => by
    simp [enums] at h
    obtain ⟨d', h1, h2⟩ := enums_at h
    refine ⟨d', by simpa using h1, ?_⟩
    rw [h2, show n + 1 + i = n + (i + 1) by omega]
theorem Walks.enum {D : Hp} {a : Addr} {xs : List V} (h : SqL K D a xs) (q : DqA K D xs ds) : Walks K W D (Ite K a) (enums 0 ds) := fun i D1 H1 o g => by
  have hs : SqL K H1 a xs := same_l (g.trans o.sub) h
  refine ⟨fun d hd => ?_, fun hi => ⟨xs, hs, by rw [q.len]; rw [enums_len] at hi; exact hi⟩⟩
  obtain ⟨d', hd', e⟩ := enums_at hd
  subst e
  obtain ⟨v, hv, qv⟩ := q.at hd'
  refine ⟨⟨xs, v, hs, hv⟩, fun x H2 y => ?_⟩
  obtain ⟨T, x', e1, e2, e3, y⟩ := y
  subst e1
  subst e3
  have e4 := y xs hs
  rw [hv] at e4
  cases e4
  have s2 : Step W D1 H1 (upd D1 T (.tup [.int ((i : Nat) : Int), v])) (upd H1 T (.tup [.int ((i : Nat) : Int), v])) := .made o e2
  refine ⟨_, s2, .tup (Or.inl (Or.inl upd_same)) ?_⟩
  rw [Nat.zero_add]
  exact .cons (.int _) (.cons ((qv.up g).up s2.gro) .nil)

theorem ei_list (h : EvD K W te ρ (.list ds)) : EvI K W (iList K te) ρ (· = ds) := fun D0 H0 D H σ e R k =>
  h D0 H0 D H σ e _ fun v D' H' d s q p => by
    subst p
    cases q with
    | lst h1 h2 => exact ⟨_, rfl, ⟨_, same_l s.sub h1⟩, k _ D' H' _ s (.list h1 h2) rfl⟩
theorem ei_tup (h : EvD K W te ρ (.tuple ds)) : EvI K W (iTup K te) ρ (· = ds) := fun D0 H0 D H σ e R k =>
  h D0 H0 D H σ e _ fun v D' H' d s q p => by
    subst p
    cases q with
    | tup h1 h2 => exact ⟨_, rfl, ⟨_, same_t s.sub h1⟩, k _ D' H' _ s (.tup h1 h2) rfl⟩
theorem ei_rng1 {ta : TA} {n : Int} (h : EvA K W ta ρ (· = [.int n])) (h1 : n < 2 ^ 62) (h2 : -(2 ^ 62) ≤ n) : EvI K W (iRng1 ta) ρ (· = ups 0 n.toNat) := fun D0 H0 D H σ e R k =>
  h D0 H0 D H σ e _ fun vs D' H' d s q p => by
    subst p
    cases q with
    | cons q1 q2 =>
      cases q1
      cases q2
      exact ⟨n, rfl, h2, h1, k _ D' H' _ s .rng rfl⟩
theorem ei_rng2 {ta : TA} {m n : Int} (h : EvA K W ta ρ (· = [.int m, .int n])) (h1 : -(2 ^ 62) ≤ m ∧ m < 2 ^ 62 ∧ -(2 ^ 62) ≤ n ∧ n < 2 ^ 62) : EvI K W (iRng2 ta) ρ (· = ups m (n - m).toNat) := fun D0 H0 D H σ e R k =>
  h D0 H0 D H σ e _ fun vs D' H' d s q p => by
    subst p
    cases q with
    | cons q1 q2 =>
      cases q1
      cases q2 with
      | cons q3 q4 =>
        cases q3
        cases q4
        exact ⟨m, n, rfl, h1, k _ D' H' _ s .rng rfl⟩
theorem ei_str {x : Str} (h : EvD K W te ρ (.str x)) : EvI K W (iStr te) ρ (· = x.cps.toList.map fun c => .str ⟨#[c]⟩) := fun D0 H0 D H σ e R k =>
  h D0 H0 D H σ e _ fun v D' H' d s q p => by
    subst p
    cases q
    exact ⟨x, rfl, k _ D' H' _ s .str rfl⟩
theorem ei_enum (h : EvD K W te ρ (.list ds)) : EvI K W (iEnum K (tCons te tNil)) ρ (· = enums 0 ds) := fun D0 H0 D H σ e R k =>
  h D0 H0 D H σ e _ fun v D' H' d s q p => by
    subst p
    cases q with
    | lst h1 h2 => exact ⟨_, _, rfl, same_l s.sub h1, k _ D' H' _ s (.enum h1 h2) rfl⟩

/-! targets of several names -/
def EvGs (K : PySem.W.Frag) (W : Fx) (g : TGs) (ρ : List Sk) (ds : List PyData) (ρ' : List Sk) (js : List Nat) : Prop := ∀ D0 H0 D H σ, Env K W D0 H0 D H σ ρ → ∀ vs, DqA K D vs ds → ∀ Q : L2.St → Hp → Prop,
  (∀ σ' D' H', Step W D H D' H' → Env K W D0 H0 D' H' σ' ρ' → σ'.length = σ.length → (∀ j, j ∉ js → σ'[j]? = σ[j]?) → Q σ' H') → g vs σ H Q
theorem egs_nil : EvGs K W gNil ρ [] ρ [] := fun D0 H0 D H σ e vs q Q k => by
  cases q
  exact ⟨rfl, k σ D H (.refl e.ok) e rfl fun _ _ => rfl⟩
theorem egs_cons {g : TG} {gs : TGs} {ρ1 ρ2 : List Sk} {j1 j2 : List Nat} (h1 : EvG K W g ρ d ρ1 j1) (h2 : EvGs K W gs ρ1 ds ρ2 j2) : EvGs K W (gCons g gs) ρ (d :: ds) ρ2 (j1 ++ j2) := fun D0 H0 D H σ e vs q Q k => by
  cases q with
  | cons q1 q2 =>
    refine ⟨_, _, rfl, h1 D0 H0 D H σ e _ q1 _ fun σ1 D1 H1 s1 e1 l1 c1 => h2 D0 H0 D1 H1 σ1 e1 _ (q2.up s1.gro) _ fun σ2 D2 H2 s2 e2 l2 c2 => ?_⟩
    refine k σ2 D2 H2 (s1.trans e.ok s2) e2 (l2.trans l1) fun j hj => ?_
    have hj' : j ∉ j1 ∧ j ∉ j2 := by simpa using hj
    exact (c2 j hj'.2).trans (c1 j hj'.1)
theorem eg_tup {g : TGs} {n : Nat} {js : List Nat} (h : EvGs K W g ρ ds ρ' js) (hn : ds.length = n) : EvG K W (gTup K n g) ρ (.tuple ds) ρ' js := fun D0 H0 D H σ e v q Q k => by
  cases q with
  | tup h1 h2 => exact ⟨_, _, rfl, same_t e.ok.sub h1, by rw [h2.len]; exact hn, h D0 H0 D H σ e _ h2 Q k⟩

/-! ### comprehensions -/
def wipeR (ρ : List Sk) : List Nat → List Sk
  | [] => ρ
  | v :: vs => (wipeR ρ vs).set v .any
theorem wipeR_len (ρ : List Sk) : ∀ vs : List Nat, (wipeR ρ vs).length = ρ.length
  | [] => rfl
  | v :: vs => by unfold wipeR; rw [List.length_set, wipeR_len ρ vs]
theorem wipe_at (σ : L2.St) (i : Nat) : ∀ vs : List Nat, (wipe σ vs)[i]? = if i ∈ vs ∧ i < σ.length then some none else σ[i]?
  | [] => by simp [wipe]
  | v :: vs => by
    unfold wipe
    by_cases h : v = i
    · subst h
      by_cases hl : v < σ.length
      · rw [List.getElem?_set_self (by rw [wipe_length]; exact hl), if_pos ⟨List.mem_cons_self, hl⟩]
      · rw [if_neg (fun z => hl z.2), List.getElem?_eq_none (by rw [List.length_set, wipe_length]; omega), List.getElem?_eq_none (by omega)]
    · rw [List.getElem?_set_ne h, wipe_at σ i vs]
      have : i ∈ v :: vs ↔ i ∈ vs := by
        rw [List.mem_cons]
        exact ⟨fun z => z.elim (fun e => (h e.symm).elim) id, Or.inr⟩
      simp only [this]
theorem wipe_idem (σ : L2.St) (vs : List Nat) : wipe (wipe σ vs) vs = wipe σ vs := by
  apply List.ext_getElem?
  intro i
  rw [wipe_at, wipe_at, wipe_length]
  by_cases h : i ∈ vs ∧ i < σ.length
  · rw [if_pos h, if_pos h]
  · rw [if_neg h, if_neg h]
theorem wipe_eq {σ σ' : L2.St} {vs js : List Nat} (hl : σ'.length = σ.length) (hj : ∀ j ∈ js, j ∈ vs) (h : ∀ j, j ∉ js → σ'[j]? = σ[j]?) : wipe σ' vs = wipe σ vs := by
  apply List.ext_getElem?
  intro i
  rw [wipe_at, wipe_at, hl]
  by_cases q : i ∈ vs ∧ i < σ.length
  · rw [if_pos q, if_pos q]
  · rw [if_neg q, if_neg q]
    by_cases hi : i ∈ vs
    · have hl2 : σ.length ≤ i := Nat.le_of_not_lt fun z => q ⟨hi, z⟩
      rw [List.getElem?_eq_none hl2, List.getElem?_eq_none (by omega)]
    · exact h i fun z => hi (hj i z)
theorem Env.wipe {D0 H0 D H : Hp} {σ : L2.St} (e : Env K W D0 H0 D H σ ρ) : ∀ vs : List Nat, (∀ v ∈ vs, v < ρ.length) → Env K W D0 H0 D H (L2.wipe σ vs) (wipeR ρ vs)
  | [], _ => e
  | v :: vs, h => (Env.wipe e vs fun w hw => h w (List.mem_cons_of_mem _ hw)).setAny (by rw [wipeR_len]; exact h v List.mem_cons_self)

variable {wi : TI} {g : TG} {tt : TT} {vs : List Nat} {P : List PyData → Prop}
/-- [e for x in .. if t]: Iv, of the turn and of the items so far -/
theorem evf_lc (hv : ∀ v ∈ vs, v < ρ.length) (hI : EvI K W wi ρ P) (Iv : List PyData → Nat → List PyData → Prop) (h0 : ∀ ds, P ds → Iv ds 0 []) (hn : ∀ ds, P ds → ds.length ≤ 100000)
    (hs : ∀ ds i d acc, P ds → ds[i]? = some d → Iv ds i acc → ∃ ρ' js Pt Pe, (∀ j ∈ js, j ∈ vs) ∧ EvG K W g (wipeR ρ vs) d ρ' js ∧ EvT K W tt ρ' Pt ∧
      (Pt true → EvN K W te ρ' Pe ∧ ∀ y, Pe y → Iv ds (i + 1) (acc ++ [y])) ∧ (Pt false → Iv ds (i + 1) acc)) :
    EvF K W (tLc wi g tt te vs) ρ (fun es => ∃ ds, P ds ∧ Iv ds ds.length es) := fun D0 H0 D H σ e Q q => by
  refine hI D0 H0 D H σ e _ fun J D1 H1 ds s1 wk p => ?_
  intro L hL
  have e1 := e.step s1
  have o1 := e1.ok
  have hHL : H L = none := by
    cases z : H L with
    | none => rfl
    | some u =>
      by_cases hw : W.adr L
      · exact (W.has H1 L s1.inv hw hL).elim
      · rw [s1.off L u hw z] at hL
        cases hL
  have hwL : ¬ W.adr L := fun hw => W.has H1 L s1.inv hw hL
  -- the invariant: from (D1, H1) without L
  let St (i : Nat) (H2 : Hp) : Prop := i ≤ ds.length ∧ ∃ D2 xs acc, Step W D1 H1 D2 H2 ∧ D2 L = none ∧ H2 L = some (.lst xs) ∧ DqA K D2 xs acc ∧ acc.length ≤ i ∧ Iv ds i acc
  have sL : Step W D1 H1 D1 (upd H1 L (.lst [])) := .keptH o1 (same_new hL)
  refine ⟨fun i m H2 => m = ds.length - i ∧ St i H2, ⟨_, rfl, Nat.zero_le _, D1, [], [], sL, o1.sub.free hL, upd_same, .nil, Nat.le_refl _, h0 ds p⟩, ?_⟩
  rintro i m H2 ⟨rfl, hi, D2, xs, acc, s2, d2, l2, q2, hlen, iv⟩
  have e2 := e1.step s2
  by_cases hlt : i < ds.length
  · have hd : ds[i]? = some ds[i] := List.getElem?_eq_getElem hlt
    obtain ⟨hgo, hy⟩ := (wk i D2 H2 e2.ok s2.gro).1 _ hd
    refine Or.inr ⟨hgo, St (i + 1), fun H' h' => ⟨_, ?_, rfl, h'⟩, fun x H3 y => ?_⟩
    · have := h'.1
      omega
    · obtain ⟨D3, s3, qx⟩ := hy x H3 y
      obtain ⟨ρ', js, Pt, Pe, hjs, hg, ht, hT, hF⟩ := hs ds i _ acc p hd iv
      have e3 := (e2.step s3).wipe vs hv
      refine hg D0 H0 D3 H3 _ e3 x qx _ fun σ4 D4 H4 s4 e4 l4 c4 => ⟨?_, ?_⟩
      · rw [wipe_eq l4 hjs c4, wipe_idem]
      · refine ht D0 H0 D4 H4 σ4 e4 _ fun b D5 H5 s5 pb => ?_
        have e5 := e4.step s5
        have sA : Step W D2 H2 D5 H5 := (s3.trans e2.ok s4).trans e2.ok s5
        cases b with
        | false =>
          refine iteF ⟨hlt, D5, xs, acc, s2.trans o1 sA, ?_, sA.off L _ hwL l2, q2.up sA.gro, Nat.le_succ_of_le hlen, hF pb⟩
          exact sA.new L d2 (by rw [l2]; exact fun z => nomatch z) (by rw [l2]; exact fun _ z => nomatch z)
        | true =>
          obtain ⟨hE, hP⟩ := hT pb
          refine iteT (hE D0 H0 D5 H5 σ4 e5 _ fun v D6 H6 d6 s6 q6 p6 => ?_)
          have sB : Step W D2 H2 D6 H6 := sA.trans e2.ok s6
          have l6 : H6 L = some (.lst xs) := sB.off L _ hwL l2
          have n6 : D6 L = none := sB.new L d2 (by rw [l2]; exact fun z => nomatch z) (by rw [l2]; exact fun _ z => nomatch z)
          have sC : Step W D1 H1 D6 H6 := s2.trans o1 sB
          refine ⟨xs, l6, ?_, hlt, D6, xs ++ [v], acc ++ [d6], ⟨sC.gro, fun b u z => ?_, fun b u hw z => ?_, sC.new, ?_⟩, n6, upd_same, (q2.up sB.gro).app (.cons q6 .nil), by rw [List.length_append]; exact Nat.succ_le_succ hlen, hP d6 p6⟩
          · have h1 := hn ds p
            have h2 : xs.length ≤ 100000 := by
              rw [q2.len]
              omega
            exact Nat.lt_of_le_of_lt h2 (by decide)
          · rw [upd_ne (fun w => by rw [w, n6] at z; cases z)]
            exact sC.sub b u z
          · rw [upd_ne (fun w => by rw [w, hL] at z; cases z)]
            exact sC.off b u hw z
          · refine W.keep H6 _ sC.inv fun b u hb z => ?_
            rw [upd_ne (fun w => hwL (by rw [← w]; exact hb))]
            exact z
  · have hie : i = ds.length := by omega
    subst hie
    refine Or.inl ⟨(wk _ D2 H2 e2.ok s2.gro).2 (Nat.le_refl _), ?_⟩
    exact q L xs D2 H2 acc (s1.trans e.ok s2) hHL d2 l2 q2 ⟨ds, p, iv⟩
/-- .. where nothing is drawn: a filter and a map -/
theorem evf_map (hv : ∀ v ∈ vs, v < ρ.length) (hI : EvI K W wi ρ (· = ds)) (hn : ds.length ≤ 100000) (p : PyData → Bool) (f : PyData → PyData)
    (hs : ∀ d, d ∈ ds → ∃ ρ' js, (∀ j ∈ js, j ∈ vs) ∧ EvG K W g (wipeR ρ vs) d ρ' js ∧ EvT K W tt ρ' (· = p d) ∧ (p d = true → EvD K W te ρ' (f d))) :
    EvF K W (tLc wi g tt te vs) ρ (· = (ds.filter p).map f) := by
  refine (evf_lc hv hI (fun ds' i acc => ds' = ds ∧ acc = ((ds.take i).filter p).map f) (fun _ e => ⟨e, by simp⟩) (fun _ e => by rw [e]; exact hn) ?_).imp ?_
  · rintro ds' i d acc e hd ⟨_, ha⟩
    subst e
    obtain ⟨ρ', js, h1, h2, h3, h4⟩ := hs d (List.mem_of_getElem? hd)
    have hi : i < ds'.length := (List.getElem?_eq_some_iff.mp hd).1
    have ht : ds'.take (i + 1) = ds'.take i ++ [d] := by rw [List.take_add_one, hd]; rfl
    refine ⟨ρ', js, _, (· = f d), h1, h2, h3, fun hp => ⟨h4 hp.symm, fun y hy => ⟨rfl, ?_⟩⟩, fun hp => ⟨rfl, ?_⟩⟩
    · subst hy
      rw [ht, List.filter_append, List.map_append, ← ha]
      simp [← hp]
    · rw [ht, List.filter_append, List.map_append, ← ha]
      simp [← hp]
  · rintro es ⟨ds', e, _, h⟩
    subst e
    rw [h, List.take_length]
theorem pt_yes : EvT K W tYes ρ (· = true) := fun D0 H0 D H σ e Q q => q true D H (.refl e.ok) rfl

/-! ### loops -/
variable {tb tr : TS} {O : Out} {EX : Hp → Prop}
theorem st_for (hI : EvI K W wi ρ P) (Iv : List PyData → Nat → List Sk → Prop) (N : List Sk → Prop) (h0 : ∀ ds, P ds → Iv ds 0 ρ)
    (hs : ∀ ds i d ρ1, P ds → ds[i]? = some d → Iv ds i ρ1 → ∃ ρ2 js, EvG K W g ρ1 d ρ2 js ∧ StG K W EX tb ρ2 { nx := Iv ds (i + 1), ct := Iv ds (i + 1), bk := N, rt := O.rt, xr := O.xr })
    (hd : ∀ ds ρ', P ds → Iv ds ds.length ρ' → N ρ') (k : ∀ ρ', N ρ' → StG K W EX tr ρ' O) : StG K W EX (tSeq (tFor wi g tb) tr) ρ O := by
  refine st_seq (N := N) (fun D0 H0 D H σ Dn e kn kb kc kr kx => ?_) k
  refine hI D0 H0 D H σ e _ fun J D1 H1 ds s1 wk p => ?_
  have e1 := e.step s1
  let At (i : Nat) (σ2 : L2.St) (H2 : Hp) : Prop := i ≤ ds.length ∧ ∃ D2 ρ2, Same D1 D2 ∧ Env K W D0 H0 D2 H2 σ2 ρ2 ∧ Iv ds i ρ2
  refine ⟨fun i m σ2 H2 => m = ds.length - i ∧ At i σ2 H2, ⟨_, rfl, Nat.zero_le _, D1, ρ, Same.refl _, e1, h0 ds p⟩, ?_⟩
  rintro i m σ2 H2 ⟨rfl, hi, D2, ρ2, g2, e2, iv⟩
  by_cases hlt : i < ds.length
  · have hd' : ds[i]? = some ds[i] := List.getElem?_eq_getElem hlt
    obtain ⟨hgo, hy⟩ := (wk i D2 H2 e2.ok g2).1 _ hd'
    refine Or.inr ⟨hgo, At (i + 1), fun σ' H' h' => ⟨_, ?_, rfl, h'⟩, fun x H3 y => ?_⟩
    · have := h'.1
      omega
    · obtain ⟨D3, s3, qx⟩ := hy x H3 y
      obtain ⟨ρ3, js, hg, hb⟩ := hs ds i _ ρ2 p hd' iv
      refine hg D0 H0 D3 H3 _ (e2.step s3) x qx _ fun σ4 D4 H4 s4 e4 l4 c4 => ?_
      have g4 : Same D1 D4 := (g2.trans s3.gro).trans s4.gro
      refine hb D0 H0 D4 H4 σ4 _ e4 (fun σ' D' H' ρ' gr e' n => ⟨hlt, D', ρ', g4.trans gr, e', n⟩) (fun σ' D' H' ρ' gr e' n => kn σ' D' H' ρ' (s1.gro.trans (g4.trans gr)) e' n) (fun σ' D' H' ρ' gr e' n => ⟨hlt, D', ρ', g4.trans gr, e', n⟩) kr kx
  · have hie : i = ds.length := by omega
    subst hie
    exact Or.inl ⟨(wk _ D2 H2 e2.ok g2).2 (Nat.le_refl _), kn σ2 D2 H2 ρ2 (s1.gro.trans g2) e2 (hd ds ρ2 p iv)⟩
theorem st_while {c : TT} (Iv : List Sk → Prop) (μ : List Sk → Nat) (N : List Sk → Prop) (h0 : Iv ρ)
    (hs : ∀ ρ1, Iv ρ1 → ∃ Pt : Bool → Prop, EvT K W c ρ1 Pt ∧ (Pt true → StG K W EX tb ρ1 { nx := fun ρ2 => Iv ρ2 ∧ μ ρ2 < μ ρ1, ct := fun ρ2 => Iv ρ2 ∧ μ ρ2 < μ ρ1, bk := N, rt := O.rt, xr := O.xr }) ∧ (Pt false → N ρ1))
    (k : ∀ ρ', N ρ' → StG K W EX tr ρ' O) : StG K W EX (tSeq (tWhile c tb) tr) ρ O := by
  refine st_seq (N := N) (fun D0 H0 D H σ Dn e kn kb kc kr kx => ?_) k
  refine ⟨fun m σ2 H2 => ∃ D2 ρ2, Same D D2 ∧ Env K W D0 H0 D2 H2 σ2 ρ2 ∧ Iv ρ2 ∧ m = μ ρ2, ⟨_, D, ρ, Same.refl _, e, h0, rfl⟩, ?_⟩
  rintro m σ2 H2 ⟨D2, ρ2, g2, e2, iv, rfl⟩
  obtain ⟨Pt, ht, hT, hF⟩ := hs ρ2 iv
  refine ht D0 H0 D2 H2 σ2 e2 _ fun b D3 H3 s3 pb => ?_
  have e3 := e2.step s3
  have g3 : Same D D3 := g2.trans s3.gro
  cases b with
  | true =>
    refine ⟨fun σ' H' => ∃ m', m' < μ ρ2 ∧ ∃ D' ρ', Same D D' ∧ Env K W D0 H0 D' H' σ' ρ' ∧ Iv ρ' ∧ m' = μ ρ', fun σ' H' h => h, ?_⟩
    exact hT pb D0 H0 D3 H3 σ2 _ e3 (fun σ' D' H' ρ' gr e' n => ⟨_, n.2, D', ρ', g3.trans gr, e', n.1, rfl⟩) (fun σ' D' H' ρ' gr e' n => kn σ' D' H' ρ' (g3.trans gr) e' n) (fun σ' D' H' ρ' gr e' n => ⟨_, n.2, D', ρ', g3.trans gr, e', n.1, rfl⟩) kr kx
  | false => exact kn σ2 D3 H3 ρ2 g3 e3 (hF pb)
end
end Dl

/-! ## Defs over data; the well -/
namespace Dl
open PySem PySem.Spec L2 PyProof.Rows

theorem Step.lift {W : Fx} {D H D' H' : Hp} (o : Ok W D H) (s : Step Fx.non D H D' H') : Step W D H D' H' :=
  .kept o s.gro s.sub (fun p u e => s.off p u (fun z => z) e) s.new
theorem Ok.non {W : Fx} {D H : Hp} (o : Ok W D H) : Ok Fx.non D H := ⟨o.sub, trivial, fun _ h => h.elim⟩

/-- the well: [its cells, a number, a count] -/
def Wl (a b : Addr) : Fx where
  root := .ref a
  adr c := c = a ∨ c = b
  inv H := a ≠ b ∧ ∃ (cs : List Int) (m n : Int), H a = some (.lst [.ref b, .int m, .int n]) ∧ H b = some (.lst (cs.map V.int))
  keep := fun H H' ⟨h, cs, m, n, h1, h2⟩ k => ⟨h, cs, m, n, k a _ (Or.inl rfl) h1, k b _ (Or.inr rfl) h2⟩
  has := fun H c ⟨_, cs, m, n, h1, h2⟩ hc => by
    rcases hc with rfl | rfl
    · rw [h1]
      exact fun z => nomatch z
    · rw [h2]
      exact fun z => nomatch z
  hasT := fun H c xs ⟨_, cs, m, n, h1, h2⟩ hc => by
    rcases hc with rfl | rfl
    · rw [h1]
      exact fun z => nomatch z
    · rw [h2]
      exact fun z => nomatch z

def spN (K : PySem.W.Frag) (n : Nat) (Pre : List PyData → Prop) (Post : List PyData → PyData → Prop) : Sp := fun vs H Q _ =>
  ∃ D ds, Ok Fx.non D H ∧ DqA K D vs ds ∧ ds.length = n ∧ Pre ds ∧ ∀ v D' H' d, Step Fx.non D H D' H' → Dq K D' v d → Post ds d → Q v H'
def spW (K : PySem.W.Frag) (n : Nat) (Pre : List PyData → Prop) (Post : List PyData → PyData → Prop) : Sp := fun vs H Q _ =>
  ∃ a b vs' D ds, vs = .ref a :: vs' ∧ Ok (Wl a b) D H ∧ DqA K D vs' ds ∧ ds.length = n ∧ Pre ds ∧ ∀ v D' H' d, Step (Wl a b) D H D' H' → Dq K D' v d → Post ds d → Q v H'

section
variable {K : PySem.W.Frag} {W : Fx} {ρ : List Sk} {n : Nat} {Pre : List PyData → Prop} {Post : List PyData → PyData → Prop} {PA : List PyData → Prop} {ta : TA} {E : XK}
theorem ev_callN (h : EvA K W ta ρ PA) (hp : ∀ ds, PA ds → ds.length = n ∧ Pre ds) : EvN K W (tCall (spN K n Pre Post) [] E ta) ρ (fun d => ∃ ds, PA ds ∧ Post ds d) := fun D0 H0 D H σ e Q q =>
  h D0 H0 D H σ e _ fun vs D1 H1 ds s1 q1 p1 => by
    have o1 := s1.ok e.ok
    rw [List.append_nil]
    refine ⟨D1, ds, o1.non, q1, (hp ds p1).1, (hp ds p1).2, fun v D' H' d s2 q2 p2 => ?_⟩
    exact q v D' H' d (s1.trans e.ok (.lift o1 s2)) q2 ⟨ds, p1, p2⟩
theorem ev_callND {ds : List PyData} {P : PyData → Prop} (h : EvA K W ta ρ (· = ds)) (hl : ds.length = n) (hp : Pre ds) (hq : ∀ d, Post ds d → P d) : EvN K W (tCall (spN K n Pre Post) [] E ta) ρ P :=
  (ev_callN h fun _ e => by
    subst e
    exact ⟨hl, hp⟩).imp fun d ⟨ds', e, p⟩ => by
      subst e
      exact hq d p
theorem ev_callW {a b : Addr} {i : Nat} (hi : ρ[i]? = some .rt) (h : EvA K (Wl a b) ta ρ PA) (hp : ∀ ds, PA ds → ds.length = n ∧ Pre ds) :
    EvN K (Wl a b) (tCall (spW K n Pre Post) [] E (tCons (tVar i) ta)) ρ (fun d => ∃ ds, PA ds ∧ Post ds d) := fun D0 H0 D H σ e Q q => by
  obtain ⟨o, h1, h2⟩ := e.slot i _ hi
  have h3 : o = some (.ref a) := h2
  subst h3
  refine ⟨.ref a, h1, ?_⟩
  refine h D0 H0 D H σ e _ fun vs D1 H1 ds s1 q1 p1 => ?_
  show spW K n Pre Post ((.ref a :: vs) ++ []) H1 Q E
  rw [List.append_nil]
  refine ⟨a, b, vs, D1, ds, rfl, s1.ok e.ok, q1, (hp ds p1).1, (hp ds p1).2, fun v D' H' d s2 q2 p2 => ?_⟩
  exact q v D' H' d (s1.trans e.ok s2) q2 ⟨ds, p1, p2⟩
theorem ev_callWD {a b : Addr} {i : Nat} {ds : List PyData} {P : PyData → Prop} (hi : ρ[i]? = some .rt) (h : EvA K (Wl a b) ta ρ (· = ds)) (hl : ds.length = n) (hp : Pre ds) (hq : ∀ d, Post ds d → P d) :
    EvN K (Wl a b) (tCall (spW K n Pre Post) [] E (tCons (tVar i) ta)) ρ P :=
  (ev_callW hi h fun _ e => by
    subst e
    exact ⟨hl, hp⟩).imp fun d ⟨ds', e, p⟩ => by
      subst e
      exact hq d p
end

theorem start_at (N : List Str) (vs : List V) {i : Nat} (h : i < vs.length) : (start N vs)[i]? = some (vs[i]?) := by
  unfold L2.start
  rw [List.getElem?_append_left (by simpa using h), List.getElem?_map, List.getElem?_eq_getElem h]
  rfl
theorem start_lt (N : List Str) (vs : List V) {i : Nat} (h : i < N.length) : ∃ o, (start N vs)[i]? = some o := by
  unfold L2.start
  exact ⟨_, List.getElem?_eq_getElem (by rw [List.length_append, List.length_map, List.length_replicate]; omega)⟩

/-- the slots at a def's entry -/
def ins (N : List Str) (ds : List PyData) : List Sk := ds.map Sk.dat ++ List.replicate (N.length - ds.length) Sk.any
def insW (N : List Str) (ds : List PyData) : List Sk := .rt :: (ds.map Sk.dat ++ List.replicate (N.length - 1 - ds.length) Sk.any)
theorem env_start {K : PySem.W.Frag} {W : Fx} {D H : Hp} {N : List Str} {vs : List V} {ds : List PyData} (o : Ok W D H) (q : DqA K D vs ds) (hN : ds.length ≤ N.length) : Env K W D H D H (start N vs) (ins N ds) where
  ok0 := o
  st := .refl o
  slot := fun i k h => by
    unfold ins at h
    by_cases hi : i < ds.length
    · rw [List.getElem?_append_left (by simpa using hi), List.getElem?_map, List.getElem?_eq_getElem hi] at h
      cases h
      obtain ⟨v, h1, h2⟩ := q.at (List.getElem?_eq_getElem hi)
      refine ⟨some v, ?_, v, rfl, h2⟩
      rw [start_at N vs (by rw [q.len]; exact hi), h1]
    · rw [List.getElem?_append_right (by simpa using hi), List.getElem?_replicate] at h
      split at h
      · rename_i hlt
        cases h
        obtain ⟨w, hw⟩ := start_lt N vs (i := i) (by rw [List.length_map] at hlt; omega)
        exact ⟨w, hw, trivial⟩
      · cases h
  dist := fun i j l s t es fs h => by
    unfold ins at h
    by_cases hi : i < ds.length
    · rw [List.getElem?_append_left (by simpa using hi), List.getElem?_map, List.getElem?_eq_getElem hi] at h
      cases h
    · rw [List.getElem?_append_right (by simpa using hi), List.getElem?_replicate] at h
      split at h <;> cases h
theorem env_startW {K : PySem.W.Frag} {a b : Addr} {D H : Hp} {N : List Str} {vs : List V} {ds : List PyData} (o : Ok (Wl a b) D H) (q : DqA K D vs ds) (hN : ds.length + 1 ≤ N.length) : Env K (Wl a b) D H D H (start N (.ref a :: vs)) (insW N ds) where
  ok0 := o
  st := .refl o
  slot := fun i k h => by
    unfold insW at h
    cases i with
    | zero =>
      cases h
      exact ⟨some (.ref a), by rw [start_at N _ (by simp)]; rfl, rfl⟩
    | succ i =>
      rw [List.getElem?_cons_succ] at h
      by_cases hi : i < ds.length
      · rw [List.getElem?_append_left (by simpa using hi), List.getElem?_map, List.getElem?_eq_getElem hi] at h
        cases h
        obtain ⟨v, h1, h2⟩ := q.at (List.getElem?_eq_getElem hi)
        refine ⟨some v, ?_, v, rfl, h2⟩
        rw [start_at N _ (by rw [List.length_cons, q.len]; omega), List.getElem?_cons_succ, h1]
      · rw [List.getElem?_append_right (by simpa using hi), List.getElem?_replicate] at h
        split at h
        · rename_i hlt
          cases h
          obtain ⟨w, hw⟩ := start_lt N (.ref a :: vs) (i := i + 1) (by rw [List.length_map] at hlt; omega)
          exact ⟨w, hw, trivial⟩
        · cases h
  dist := fun i j l s t es fs h => by
    unfold insW at h
    cases i with
    | zero => cases h
    | succ i =>
      rw [List.getElem?_cons_succ] at h
      by_cases hi : i < ds.length
      · rw [List.getElem?_append_left (by simpa using hi), List.getElem?_map, List.getElem?_eq_getElem hi] at h
        cases h
      · rw [List.getElem?_append_right (by simpa using hi), List.getElem?_replicate] at h
        split at h <;> cases h

section
variable {P : Program} {w : World} {K : PySem.W.Frag} {mg : Str → Option Value} {base : Heap} {C : CXT} {x qual : Str} {st : Stmt} {f : Addr} {fd : FuncData} {N ps : List Str} {k : Nat} {Pre : List PyData → Prop} {Post : List PyData → PyData → Prop}
theorem StG.run {W : Fx} {EX : Hp → Prop} {xr : Prop} {D H : Hp} {σ : L2.St} {ρ : List Sk} {ts : TS} {Q : VK} {Pt : PyData → Prop} (h : StG K W EX ts ρ { nx := fun _ => Pt .none, rt := Pt, xr := xr }) (e : Env K W D H D H σ ρ)
    (q : ∀ v D' H' d, Step W D H D' H' → Dq K D' v d → Pt d → Q v H') (x : ∀ D' H', Step W D H D' H' → xr → EX H') : ts { nx := fun _ H' => Q .non H', rt := Q } σ H :=
  h D H D H σ _ e (fun σ' D' H' ρ' _ e' p => q .non D' H' .none e'.st .non p) (fun _ _ _ _ _ _ p => p.elim) (fun _ _ _ _ _ _ p => p.elim) q x
/-- a def over data -/
theorem ok_N (F : Fun K x qual st f fd) (S : FnScope N ps (defScope st)) (hb : ∀ (cdv : Value) (A : Around) (outer : List PySem.Env) (s : Shared) (H : Hp) (E : XK),
      Room k (A.deeper (envOfC qual (defScope st) s.heap.objs.size f cdv)) → ∀ ds, ds.length = ps.length → Pre ds →
      ∃ t, PSs (cxOf CX0 P w K mg base N qual (defScope st) f cdv A outer s H E).nox (defBody st) t ∧ StG K Fx.non (fun _ => False) t (ins N ds) { nx := fun _ => Post ds .none, rt := Post ds }) :
    FnOk P w K mg base CX0 (k + 1) f fd ps (spN K ps.length Pre Post) := by
  refine F.ok S (fun vs H Q E h => ?_) (fun cdv A outer s H vs Q E hr h => ?_)
  · obtain ⟨D, ds, _, q, hl, _⟩ := h
    rw [q.len]
    exact hl
  · obtain ⟨D, ds, o, q, hl, p, k⟩ := h
    obtain ⟨t, ht, hg⟩ := hb cdv A outer s H E hr ds hl p
    refine ⟨t, ht, hg.run (env_start o q ?_) k fun _ _ _ z => z⟩
    have hp : ps.length ≤ N.length := by
      have := congrArg List.length S.pre
      rw [List.length_take] at this
      omega
    omega
/-- .. that draws -/
theorem ok_W {p0 : Str} (F : Fun K x qual st f fd) (S : FnScope N (p0 :: ps) (defScope st)) (hb : ∀ (a b : Addr) (cdv : Value) (A : Around) (outer : List PySem.Env) (s : Shared) (H : Hp) (E : XK),
      Room k (A.deeper (envOfC qual (defScope st) s.heap.objs.size f cdv)) → ∀ ds, ds.length = ps.length → Pre ds →
      ∃ t, PSs (cxOf CX0 P w K mg base N qual (defScope st) f cdv A outer s H E).nox (defBody st) t ∧ StG K (Wl a b) (fun _ => False) t (insW N ds) { nx := fun _ => Post ds .none, rt := Post ds }) :
    FnOk P w K mg base CX0 (k + 1) f fd (p0 :: ps) (spW K ps.length Pre Post) := by
  refine F.ok S (fun vs H Q E h => ?_) (fun cdv A outer s H vs Q E hr h => ?_)
  · obtain ⟨a, b, vs', D, ds, e, _, q, hl, _⟩ := h
    rw [e, List.length_cons, q.len, hl]
    rfl
  · obtain ⟨a, b, vs', D, ds, e, o, q, hl, p, k⟩ := h
    subst e
    obtain ⟨t, ht, hg⟩ := hb a b cdv A outer s H E hr ds hl p
    refine ⟨t, ht, hg.run (env_startW o q ?_) k fun _ _ _ z => z⟩
    have hp : (p0 :: ps).length ≤ N.length := by
      have := congrArg List.length S.pre
      rw [List.length_take] at this
      omega
    rw [List.length_cons] at hp
    omega
end
/-- a def over data that may raise its error -/
def spR (K : PySem.W.Frag) (cls : Value) (n : Nat) (Pre : List PyData → Prop) (g : List PyData → Option PyData) : Sp := fun vs H Q E =>
  ∃ D ds, Ok Fx.non D H ∧ DqA K D vs ds ∧ ds.length = n ∧ Pre ds ∧ (∀ v D' H' d, Step Fx.non D H D' H' → Dq K D' v d → g ds = some d → Q v H') ∧ ∀ D' H', Step Fx.non D H D' H' → g ds = none → E cls none H'
section
variable {K : PySem.W.Frag} {W : Fx} {ρ : List Sk} {n : Nat} {cls : Value} {Pre : List PyData → Prop} {g : List PyData → Option PyData} {PA : List PyData → Prop} {ta : TA} {E : XK}
theorem evr_call (h : EvA K W ta ρ PA) (hp : ∀ ds, PA ds → ds.length = n ∧ Pre ds) :
    EvR K W (fun H => E cls none H) (tCall (spR K cls n Pre g) [] E ta) ρ (fun d => ∃ ds, PA ds ∧ g ds = some d) (∃ ds, PA ds ∧ g ds = none) := fun D0 H0 D H σ e Q q x =>
  h D0 H0 D H σ e _ fun vs D1 H1 ds s1 q1 p1 => by
    have o1 := s1.ok e.ok
    rw [List.append_nil]
    refine ⟨D1, ds, o1.non, q1, (hp ds p1).1, (hp ds p1).2, fun v D' H' d s2 q2 p2 => ?_, fun D' H' s2 p2 => ?_⟩
    · exact q v D' H' d (s1.trans e.ok (.lift o1 s2)) q2 ⟨ds, p1, p2⟩
    · exact x D' H' (s1.trans e.ok (.lift o1 s2)) ⟨ds, p1, p2⟩
theorem evr_callD {ds : List PyData} (h : EvA K W ta ρ (· = ds)) (hl : ds.length = n) (hp : Pre ds) :
    EvR K W (fun H => E cls none H) (tCall (spR K cls n Pre g) [] E ta) ρ (fun d => g ds = some d) (g ds = none) :=
  (evr_call h fun _ e => by
    subst e
    exact ⟨hl, hp⟩).imp (fun d ⟨ds', e, p⟩ => by
      subst e
      exact p) fun ⟨ds', e, p⟩ => by
      subst e
      exact p
end
section
variable {P : Program} {w : World} {K : PySem.W.Frag} {mg : Str → Option Value} {base : Heap} {x qual : Str} {st : Stmt} {f : Addr} {fd : FuncData} {N ps : List Str} {k : Nat} {cls : Value} {Pre : List PyData → Prop} {g : List PyData → Option PyData}
theorem ok_R (F : Fun K x qual st f fd) (S : FnScope N ps (defScope st)) (hb : ∀ (cdv : Value) (A : Around) (outer : List PySem.Env) (s : Shared) (H : Hp) (E : XK),
      Room k (A.deeper (envOfC qual (defScope st) s.heap.objs.size f cdv)) → ∀ ds, ds.length = ps.length → Pre ds →
      ∃ t, PSs (cxOf (L2.CX P w) P w K mg base N qual (defScope st) f cdv A outer s H E) (defBody st) t ∧
        StG K Fx.non (fun H => E cls none H) t (ins N ds) { nx := fun _ => g ds = some .none, rt := fun d => g ds = some d, xr := g ds = none }) :
    FnOk P w K mg base (L2.CX P w) (k + 1) f fd ps (spR K cls ps.length Pre g) := by
  refine F.okX S (fun vs H Q E h => ?_) (fun cdv A outer s H vs Q E hr h => ?_)
  · obtain ⟨D, ds, _, q, hl, _⟩ := h
    rw [q.len]
    exact hl
  · obtain ⟨D, ds, o, q, hl, p, k, x⟩ := h
    obtain ⟨t, ht, hg⟩ := hb cdv A outer s H E hr ds hl p
    refine ⟨t, ht, hg.run (env_start o q ?_) k x⟩
    have hp : ps.length ≤ N.length := by
      have := congrArg List.length S.pre
      rw [List.length_take] at this
      omega
    omega
end
end Dl

/-! ## Further rules -/
namespace Dl
open PySem PySem.Spec PyProof.Rows L2

/-! ### a call by keywords alone -/
structure KwB (K : PySem.W.Frag) (fd : FuncData) (ps ks : List Str) (g : {α : Type} → List α → List α) : Prop where
  to : ∀ (s : Shared) (ws : List Value), ws.length = ks.length → BindsTo s fd ⟨[], ks.zip ws⟩ (ps.zip (g ws))
  rel : ∀ {zs : List V} {ws : List Value}, zs.length = ks.length → Vals zs ws → Vals (g zs) (g ws)
def tKw (n : Nat) (g : {α : Type} → List α → List α) (sp : Sp) (E : L2.St → XK) (t : TA) : TE := fun σ H Q => t σ H fun vs H1 => vs.length = n ∧ sp (g vs) H1 Q (E σ)
section
variable {X : Cx} {C : CXT} {k : Nat} {f : Addr} {fd : FuncData} {ps ks : List Str} {sp : Sp} {E : L2.St → XK} {x : Str} {p pos : Pos} {kws : List Keyword} {t : TA} {g : {α : Type} → List α → List α}
theorem pe_kw (F : FnOk X.prog X.w X.K X.mg X.base C k f fd ps sp) (hr : Room k X.A) (hg : Gl X x) (hm : X.mg x = some (.ref f)) (hk : PySem.W.keepIn X.K (.ref f) = true) (hb : KwB X.K fd ps ks g)
    (hx : ∀ σ, PassesAt C X σ (E σ)) (hkw : PK X kws t) (hall : (backToKw pos (keywordEach kws X.env)).all (·.1.isSome) = true := by rfl) (hks : (backToKw pos (keywordEach kws X.env)).filterMap (·.1) = ks := by rfl)
    (hdb : (x == ("__debug__" : Str)) = false := by decide) (hpl : ((backTo pos (starEach [] X.env)).any (·.1) || (backToKw pos (keywordEach kws X.env)).any (·.1.isNone)) = false := by rfl) :
    PE X (.Call (.Name x p) [] kws pos) (tKw ks.length g sp E t) := by
  constructor
  intro pins s σ H Q I h
  apply wpAny_Call_Name_kw (ld_glob I hg hm ?_ hdb)
  apply PySem.W.callWith_KW0 (h₀ := X.base) I.ok.mod.kin hk hall (thn (hkw.run pos pins s σ H _ I h) ?_) hpl
  rintro ws s1 ⟨zs, H1, I1, rz, hl, q⟩
  refine ⟨I1.kIn, ?_⟩
  rw [hks]
  show wpAny _ _ (call (.ref f) [] (ks.zip ws)) _ _ _
  have hl2 : ws.length = ks.length := rz.length.symm.trans hl
  apply wpAny_call
  apply codeAny_mono (F.run X.A X.stack s1 H1 ⟨[], ks.zip ws⟩ (g ws) (g zs) Q (E σ) hr I1.env0 (hb.to s1 ws hl2) (hb.rel hl rz) q)
  intro res s' hq
  match res, hq with
  | .error er, hq => exact hx σ pins H1 s1 er s' I1 hq
  | .ok (.ret u), hq => exact I1.after hq
  | .ok .next, hq => exact hq.elim
  | .ok .brk, hq => exact hq.elim
  | .ok .cont, hq => exact hq.elim
theorem passAt0 {X : Cx} : ∀ σ : L2.St, PassesAt CX0 X σ (fun _ _ _ => False) := fun _ _ _ _ _ _ _ h => h.elim
end
def g1 : {α : Type} → List α → List α := fun l => l
def g2 : {α : Type} → List α → List α
  | _, [a, b] => [b, a]
  | _, l => l
theorem Fun.kw1 {K : PySem.W.Frag} {x qual : Str} {st : Stmt} {f : Addr} {fd : FuncData} {ps ks : List Str} (F : Fun K x qual st f fd)
    (h : ∀ (kV doc pm : Value) (an : Option Addr) (cdv ct : Value) (us : List Value), us.length = ks.length → bindArgs (PySem.W.fnOf x qual (defArgs st) (defBody st) (defScope st) .none kV doc pm an cdv ct) ⟨[], ks.zip us⟩ = pure (ps.zip us)) : KwB K fd ps ks g1 := by
  obtain ⟨oc, od, kV, doc, pm, an, cdv, ct, osl, rfl, lk, hcd⟩ := F.ex
  exact ⟨fun s ws hl => BindsTo.of_eq (h kV doc pm an cdv ct ws hl), fun _ r => r⟩
theorem Fun.kw2 {K : PySem.W.Frag} {x qual : Str} {st : Stmt} {f : Addr} {fd : FuncData} {ps : List Str} {k1 k2 : Str} (F : Fun K x qual st f fd)
    (h : ∀ (kV doc pm : Value) (an : Option Addr) (cdv ct : Value) (a b : Value), bindArgs (PySem.W.fnOf x qual (defArgs st) (defBody st) (defScope st) .none kV doc pm an cdv ct) ⟨[], [(k1, a), (k2, b)]⟩ = pure (ps.zip [b, a])) : KwB K fd ps [k1, k2] g2 := by
  obtain ⟨oc, od, kV, doc, pm, an, cdv, ct, osl, rfl, lk, hcd⟩ := F.ex
  refine ⟨fun s ws hl => ?_, fun hl r => ?_⟩
  · match ws, hl with
    | [a, b], _ => exact BindsTo.of_eq (h kV doc pm an cdv ct a b)
  · match r, hl with
    | .cons r1 (.cons r2 .nil), _ => exact .cons r2 (.cons r1 .nil)

/-! ### f"{i:02d}" -/
def two (i : Int) : Str := if decide (i < 10) = true then (⟨#[48]⟩ : Str) ++ Str.ofString (toString i) else Str.ofString (toString i)
def tF2 (te : TE) : TE := fun σ H Q => te σ H fun x H1 => ∃ i : Int, x = .int i ∧ 0 ≤ i ∧ i < 100 ∧ Q (.str (two i)) H1
theorem pe_f2 {X : Cx} {e : Expr} {te : TE} {pos p1 p2 : Pos} {j} (hnd : X.base.NoDigits) (he : PE X e te) :
    PE X (.FormattedValue e (-1) (some (.JoinedStr [.Constant (.str "02d") j p1] p2)) pos) (tF2 te) := by
  refine ⟨fun pins s σ H Q I h => ?_⟩
  refine wpAny_FormattedValue_spec (thn (he.run pins s σ H _ I h) fun v s1 hv => ?_)
  obtain ⟨x, H1, I1, r1, i, e1, h0, h1, q⟩ := hv
  subst e1
  obtain ⟨t, rfl⟩ := r1
  have hs : PE X (.JoinedStr [.Constant (.str "02d") j p1] p2) (tC (.str "02d")) := pe_joined1 pe_str
  refine thn (hs.run pins s1 σ H1 (fun v' H' => v' = .str "02d" ∧ Q (.str (two i)) H') I1 ⟨rfl, q⟩) fun r s2 hr => ?_
  obtain ⟨y, H2, I2, r2, e2, q2⟩ := hr
  subst e2
  obtain ⟨t2, rfl⟩ := r2
  refine ⟨_, _, rfl, ?_⟩
  refine formatField_int_specOf (hnd.keeps I2.bk) (lt_digitLimit_of_lt (by omega)) (by decide) fun W hW F => ?_
  have hp := F.pad2 (by decide) (hW.trans (by decide)) h0 h1
  rw [hp]
  exact ⟨.str (two i), H2, I2.tok _, ⟨_, rfl⟩, q2⟩

/-! ### list(text), text * n -/
theorem call_list_strQ {X : Cx} (hc : X.calm = true) : CallR X (.type "list") (fun xs H Q => ∃ z : Str, xs = [.str z] ∧ z.length ≤ sizeLine ∧ ∀ l, H l = none → Q (.ref l) (upd H l (.lst (z.cps.toList.map fun c => V.str ⟨#[c]⟩)))) := by
  intro pins s σ H xs us Q I r h
  obtain ⟨z, rfl, hz, q⟩ := h
  obtain ⟨u, rfl, t, rfl⟩ := vals1 r
  refine call_list_str (I.ok.hd hc) z t (fun h' tk acc c' hk hS hacc => ?_) hz
  obtain ⟨h1, h2⟩ := hacc
  have rv : Vals (z.cps.toList.map fun c => V.str ⟨#[c]⟩) acc.toList := by
    have aux : ∀ (cs : List Nat) (vs : List Value), cs.length = vs.length → (∀ (j : Nat) v, vs[j]? = some v → ∃ c u, cs[j]? = some c ∧ v = .str ⟨#[c]⟩ u) → Vals (cs.map fun c => V.str ⟨#[c]⟩) vs := by
      intro cs
      induction cs with
      | nil =>
        intro vs hl _
        cases vs with
        | nil => exact .nil
        | cons _ _ => simp at hl
      | cons c cs ih =>
        intro vs hl hh
        cases vs with
        | nil => simp at hl
        | cons v vs =>
          obtain ⟨c', u, e1, e2⟩ := hh 0 v rfl
          cases e1
          refine .cons ⟨u, e2⟩ (ih vs (by simpa using hl) fun j w hw => ?_)
          exact hh (j + 1) w (by simpa using hw)
    refine aux _ _ (by simp [h1]) fun j v hj => ?_
    obtain ⟨c, u, e1, e2⟩ := h2 j v (by simpa using hj)
    exact ⟨c, u, by simpa using e1, e2⟩
  exact ⟨.ref s.heap.objs.size, _, I.laid (t' := tk) hk (Nat.le_refl _) (show ObjOk X.prog X.w _ h' _ (.lst _) from ⟨by rw [List.length_map]; exact hz, _, c', rv, hS⟩), rfl, q _ (I.hok.fresh (Nat.le_refl _))⟩
def times (z : Str) (n : Nat) : Str := ⟨(List.replicate n z.cps).foldl (· ++ ·) #[]⟩
theorem op_repS {X : Cx} : OpR X (binaryOp .Mult) (fun x y H Q => ∃ (z : Str) (n : Int), x = .str z ∧ y = .int n ∧ 2 ≤ n ∧ n ≤ 100000 ∧ 1 ≤ z.length ∧ z.length ≤ 100 ∧ (times z n.toNat).length ≤ sizeLine ∧ Q (.str (times z n.toNat)) H) := by
  intro pins s σ H x y v u Q I rx ry h
  obtain ⟨z, n, rfl, rfl, h1, h2, h3, h4, h5, q⟩ := h
  obtain ⟨t, rfl⟩ := rx
  obtain ⟨t2, rfl⟩ := ry
  have e1 : ¬ n < 1 := by omega
  have e2 : ¬ ((n == 1 || z.length == 0) = true) := by
    simp only [Bool.or_eq_true, beq_iff_eq]
    omega
  refine PySem.P.mul_str ?_ (fun _ _ => ?_) (fun _ _ => ?_) ?_
  · simp only [Bool.or_eq_false_iff, decide_eq_false_iff_not]
    omega
  · have : n ≤ 100000 := h2
    have h6 : (2 ^ 63 - 1 : Int) / n ≥ 1000 := by
      have : (1000 : Int) * n ≤ 2 ^ 63 - 1 := by omega
      exact (Int.le_ediv_iff_mul_le (by omega)).mpr this
    omega
  · have h6 : z.length * n.toNat ≤ 100 * 100000 := Nat.mul_le_mul h4 (by omega)
    unfold PySem.Builtin.Str.tooLong
    simp only [sizeLine_eq, decide_eq_false_iff_not]
    omega
  · rw [if_neg e1, if_neg e2]
    exact ⟨h5, .str _, H, I.tok _, ⟨_, rfl⟩, q⟩

/-! ### raise X() -/
theorem pmk_own0 {X : Cx} {C : Addr} {bmB : List Value} {B newId initId : String} {x : Str} {p pos : Pos} (F : ExcBaseFacts B newId initId bmB) (q : PySem.W.excIn X.K C bmB newId = true) (gC : X.mg x = some (.ref C)) (kC : PySem.W.keepIn X.K (.ref C) = true) (r : Raises X (.ref C)) (hg : Gl X x)
    (hdb : (x == ("__debug__" : Str)) = false := by decide) : PMk X (.Call (.Name x p) [] [] pos) (fun _ H Q => Q (.ref C) none H) := by
  intro pins s σ H Q I h
  refine wpAny_Call_Name_kw (ld_glob I hg gC ?_ hdb)
  refine PySem.W.callWith_K0 I.kIn kC ?_
  show wpAny _ _ (call (.ref C) []) _ _ _
  obtain ⟨bm, N, nm, qn, bs, hdct, sn, sub, ab, col, dd, k0, k1, k2, k3, k5, mN, hC, hN, hni, T⟩ := exc_obj I.kIn q
  refine wpAny_call_exc_subT F T hC hN hni (fun h' e hm => ?_) (by show 0 ≤ sizeLine; omega)
  exact mk_of I hm r h (I.hok.gone hm.new)

/-! ### list(range(a, b, c)) -/
def rgC (a c : Int) (n : Nat) : List V := (List.range n).map fun i => V.int (a + ((i : Nat) : Int) * c)
theorem vals_rgC {a c : Int} {n : Nat} {acc : Array Value} (h : ItemsOf (fun i v => ∃ t, v = .int (a + i * c) t) acc n) : Vals (rgC a c n) acc.toList := by
  have e : acc.toList.length = n := by rw [Array.length_toList]; exact h.1
  unfold rgC
  rw [← e]
  refine vals_of_get acc.toList _ fun j u hj => ?_
  obtain ⟨t, rfl⟩ := h.2 j u (by rw [← hj, Array.getElem?_toList])
  exact ⟨t, rfl⟩
def tLstRg3 (ta : TA) : TE := fun σ H Q => ta σ H fun vs H1 => ∃ (i j c : Int) (n : Nat), vs = [.int i, .int j, .int c] ∧ RgC i j c n ∧ n ≤ 2 ^ 24 ∧ ∀ q, H1 q = none → Q (.ref q) (upd H1 q (.lst (rgC i c n)))
theorem pe_listRg3 {X : Cx} {a b c : Expr} {ta : TA} {p1 p2 pos1 pos2 : Pos} (hc : X.calm = true) (hg1 : Gl X "list") (hm1 : X.mg "list" = none) (hg : Gl X "range") (hm : X.mg "range" = none) (ha : PA X [a, b, c] ta)
    (hs : starEach [a, b, c] X.env = (false, eval a X.env) :: starEach [b, c] X.env := by rfl) (hpl : (backTo pos2 (starEach [b, c] X.env)).any (·.1) = false := by rfl)
    (na : starEach [.Call (.Name "range" p2) [a, b, c] [] pos2] X.env = (false, eval (.Call (.Name "range" p2) [a, b, c] [] pos2) X.env) :: starEach [] X.env := by rfl) :
    PE X (.Call (.Name "list" p1) [.Call (.Name "range" p2) [a, b, c] [] pos2] [] pos1) (tLstRg3 ta) := by
  refine ⟨fun pins s σ H Q I h => ?_⟩
  refine Call_ (ld_blt I hg1 hm1 boot_list (PyProof.Rows.callWith_type1 (args_cons (thn (Q := fun x s1 => ∃ r i j k n t u v H1, x = .ref r ∧ IsRange s1.heap r i j k t u v ∧ Inv X pins σ H1 s1 ∧ RgC i j k n ∧ n ≤ 2 ^ 24 ∧ ∀ q, H1 q = none → Q (.ref q) (upd H1 q (.lst (rgC i k n))))
    (Call_ (ld_blt I hg hm boot_range (PyProof.Rows.callWith_type1 (thn (ha.run pos2 pins s σ H _ I h) fun us s1 ⟨vs, H1, I1, r1, q1⟩ => ?_) hs hpl))) fun x s1 hx => args_nil ?_) na) na))
  · obtain ⟨i, j, k, n, e, ⟨c0, c1, c2, c3⟩, q0, q⟩ := q1
    subst e
    cases r1 with
    | cons r rr =>
      cases rr with
      | cons r' rr =>
        cases rr with
        | cons r'' rr =>
          cases rr
          obtain ⟨t, rfl⟩ := r
          obtain ⟨t', rfl⟩ := r'
          obtain ⟨t'', rfl⟩ := r''
          refine call_range_3 c0 ?_ (.inl (PyProof.noPylong_small c1))
          exact ⟨_, i, j, k, n, t, t', t'', H1, rfl, IsRange.new .., I1.kept (t' := s1.toks) fun b o e => Heap.get?_push_of_some _ e, ⟨c0, c1, c2, c3⟩, q0, q⟩
  · obtain ⟨r, i, j, k, n, t, u, v, H1, ex, hr, I1, ⟨c0, c1, c2, c3⟩, q0, q⟩ := hx
    subst ex
    refine call_list_range (n := n) (I1.ok.hd hc) hr c2 c3 q0 fun h' tk acc c' hk e' hi => ?_
    refine ⟨.ref s1.heap.objs.size, upd H1 s1.heap.objs.size (.lst (rgC i k n)), I1.laid hk (Nat.le_refl _) (show ObjOk X.prog X.w _ _ _ (.lst (rgC i k n)) from ⟨?_, acc.toList, c', vals_rgC hi, ?_⟩), rfl, q _ (I1.hok.fresh (Nat.le_refl _))⟩
    · unfold rgC
      rw [List.length_map, List.length_range, sizeLine_eq]
      omega
    · rw [Array.toArray_toList]
      exact e'

/-- an error of the class at S is what its except names -/
theorem exm_of {K : PySem.W.Frag} {S : Addr} (h1 : PySem.W.subIn K (.ref S) (.type "BaseException") = some true) (h2 : PySem.W.isClsIn K S = true) (h3 : PySem.W.typeIn K (.ref S) = some (.type "type")) (h4 : PySem.W.subIn K (.ref S) (.ref S) = some true) :
    PySem.W.exmOne K (.ref S) (.ref S) = some true := by
  have e1 : (PySem.W.subIn K (.ref S) (.type "BaseException") == some true) = true := by rw [h1] <;> rfl
  have e2 : ((PySem.W.clsIn K S).isSome && PySem.W.typeIn K (.ref S) == some (.type "type")) = true := by
    have h2' : (PySem.W.clsIn K S).isSome = true := h2
    rw [h2', h3] <;> rfl
  show (if (PySem.W.subIn K (.ref S) (.type "BaseException") == some true) = true then (if ((PySem.W.clsIn K S).isSome && PySem.W.typeIn K (.ref S) == some (.type "type")) = true then PySem.W.subIn K (.ref S) (.ref S) else none) else none) = some true
  rw [if_pos e1, if_pos e2]
  exact h4
theorem passAtL {X : Cx} : ∀ σ : L2.St, PassesAt (L2.CX X.prog X.w) X σ E0 := fun σ pins H s e s' I h => passL pins σ H s e s' I h
end Dl

/-! ## Operators and built-ins on data -/
namespace Dl
open PySem PySem.Spec PyProof.Rows L2

section
variable {K : PySem.W.Frag} {W : Fx} {EX : Hp → Prop} {ρ : List Sk} {P : PyData → Prop} {te ta tb tc : TE} {d : PyData} {ds : List PyData}

def rAddS : R2 := fun x y H Q => ∃ i j, x = V.str i ∧ y = V.str j ∧ i.length + j.length ≤ sizeLine ∧ Q (V.str (i ++ j)) H
theorem rd_addS {x y : Str} (h : x.length + y.length ≤ sizeLine) : RD K W rAddS (.str x) (.str y) (· = .str (x ++ y)) := fun D H u v o hu hv Q q => by
  cases hu
  cases hv
  exact ⟨x, y, rfl, rfl, h, q _ D H _ (.refl o) (.str _) rfl⟩
def rLenS : List V → Hp → VK → Prop := fun xs H Q => ∃ z : Str, xs = [V.str z] ∧ z.length ≤ sizeLine ∧ Q (V.int ↑z.length) H
theorem rc_lenS {z : Str} (h : z.length ≤ sizeLine) : RC K W rLenS [.str z] (· = .int z.length) := fun D H vs o hv Q q => by
  cases hv with
  | cons hx hn =>
    cases hn
    cases hx
    exact ⟨z, rfl, h, q _ D H _ (.refl o) (.int _) rfl⟩
def rStrI : List V → Hp → VK → Prop := fun xs H Q => ∃ i : Int, xs = [V.int i] ∧ i.natAbs.log2 < 1920 ∧ Q (V.str (Str.ofString (toString i))) H
theorem rc_strI {i : Int} (h : i.natAbs.log2 < 1920) : RC K W rStrI [.int i] (· = .str (Str.ofString (toString i))) := fun D H vs o hv Q q => by
  cases hv with
  | cons hx hn =>
    cases hn
    cases hx
    exact ⟨i, rfl, h, q _ D H _ (.refl o) (.str _) rfl⟩
def rIntS : List V → Hp → VK → Prop := fun xs H Q => ∃ (a : Str) (n : Int), xs = [V.str a] ∧ intText? a = some n ∧ a.length ≤ 640 ∧ Q (V.int n) H
theorem rc_intS {a : Str} {n : Int} (h : intText? a = some n) (hz : a.length ≤ 640) : RC K W rIntS [.str a] (· = .int n) := fun D H vs o hv Q q => by
  cases hv with
  | cons hx hn =>
    cases hn
    cases hx
    exact ⟨a, n, rfl, h, hz, q _ D H _ (.refl o) (.int _) rfl⟩
def rInt1 : List V → Hp → VK → Prop := fun xs H Q => (∃ i : Int, xs = [V.int i] ∧ Q (V.int i) H) ∨ ∃ k : Bool, xs = [V.bl k] ∧ Q (V.int (if k = true then 1 else 0)) H
theorem rc_int1 {i : Int} : RC K W rInt1 [.int i] (· = .int i) := fun D H vs o hv Q q => by
  cases hv with
  | cons hx hn =>
    cases hn
    cases hx
    exact Or.inl ⟨i, rfl, q _ D H _ (.refl o) (.int _) rfl⟩
theorem rc_intB {b : Bool} : RC K W rInt1 [.bool b] (· = .int (if b = true then 1 else 0)) := fun D H vs o hv Q q => by
  cases hv with
  | cons hx hn =>
    cases hn
    cases hx
    exact Or.inr ⟨b, rfl, q _ D H _ (.refl o) (.int _) rfl⟩
def rAbs : List V → Hp → VK → Prop := fun xs H Q => ∃ i : Int, xs = [V.int i] ∧ Q (V.int (if i < 0 then -i else i)) H
theorem rc_abs {i : Int} : RC K W rAbs [.int i] (· = .int (if i < 0 then -i else i)) := fun D H vs o hv Q q => by
  cases hv with
  | cons hx hn =>
    cases hn
    cases hx
    exact ⟨i, rfl, q _ D H _ (.refl o) (.int _) rfl⟩
def rLenQ (K : PySem.W.Frag) : List V → Hp → VK → Prop := fun xs H Q => ∃ p ys, xs = [V.ref p] ∧ (SqL K H p ys ∨ SqT K H p ys) ∧ Q (V.int ↑ys.length) H
theorem rc_lenL : RC K W (rLenQ K) [.list ds] (· = .int ds.length) := fun D H vs o hv Q q => by
  cases hv with
  | cons hx hn =>
    cases hn
    cases hx with
    | lst h1 h2 =>
      refine ⟨_, _, rfl, Or.inl (same_l o.sub h1), q _ D H _ (.refl o) (.int _) ?_⟩
      rw [h2.len]
theorem rc_lenT : RC K W (rLenQ K) [.tuple ds] (· = .int ds.length) := fun D H vs o hv Q q => by
  cases hv with
  | cons hx hn =>
    cases hn
    cases hx with
    | tup h1 h2 =>
      refine ⟨_, _, rfl, Or.inr (same_t o.sub h1), q _ D H _ (.refl o) (.int _) ?_⟩
      rw [h2.len]
/-- len of a list that is read -/
theorem ev_lenB {P : List PyData → Prop} (h : EvB K W te ρ P) : EvN K W (tCB (rLenQ K) (tCons te tNil)) ρ (fun d => ∃ ds, P ds ∧ d = .int ds.length) := fun D0 H0 D H σ e Q q =>
  h D0 H0 D H σ e _ fun l xs D1 H1 ds s1 a q1 p1 => ⟨l, xs, rfl, Or.inl a, q _ D1 H1 _ s1 (.int _) ⟨ds, p1, by rw [q1.len]⟩⟩
theorem rc_all {bs : List Bool} : RC K W (rAll K) [.list (bs.map .bool)] (· = .bool (bs.all id)) := fun D H vs o hv Q q => by
  cases hv with
  | cons hx hn =>
    cases hn
    cases hx with
    | lst h1 h2 =>
      have e := h2.isBools bs
      subst e
      exact ⟨_, bs, rfl, same_l o.sub h1, q _ D H _ (.refl o) (.bl _) rfl⟩
def rInS (neg : Bool) : R2 := fun x y H Q => ∃ (c : Nat) (z : Str), x = V.str ⟨#[c]⟩ ∧ y = V.str z ∧ Q (V.bl (if neg = true then !decide (c ∈ z.cps.toList) else decide (c ∈ z.cps.toList))) H
theorem rd_inS {c : Nat} {z : Str} : RD K W (fun x y H Q => ∃ (c : Nat) (z : Str), x = V.str ⟨#[c]⟩ ∧ y = V.str z ∧ Q (V.bl (decide (c ∈ z.cps.toList))) H) (.str ⟨#[c]⟩) (.str z) (· = .bool (decide (c ∈ z.cps.toList))) := fun D H u v o hu hv Q q => by
  cases hu
  cases hv
  exact ⟨c, z, rfl, rfl, q _ D H _ (.refl o) (.bl _) rfl⟩
theorem rd_ninS {c : Nat} {z : Str} : RD K W (fun x y H Q => ∃ (c : Nat) (z : Str), x = V.str ⟨#[c]⟩ ∧ y = V.str z ∧ Q (V.bl (!decide (c ∈ z.cps.toList))) H) (.str ⟨#[c]⟩) (.str z) (· = .bool (!decide (c ∈ z.cps.toList))) := fun D H u v o hu hv Q q => by
  cases hu
  cases hv
  exact ⟨c, z, rfl, rfl, q _ D H _ (.refl o) (.bl _) rfl⟩

/-! == on data -/
section
open SeqAt
theorem sh_none : SeqAt.shaped .none = true := by simp [SeqAt.shaped, PyData.canLay0, PyData.depth]
theorem sh_bool (b : Bool) : SeqAt.shaped (.bool b) = true := by simp [SeqAt.shaped, PyData.canLay0, PyData.depth]
theorem sh_int (i : Int) : SeqAt.shaped (.int i) = true := by simp [SeqAt.shaped, PyData.canLay0, PyData.depth]
def flatD : PyData → Bool
  | .none | .bool _ | .int _ => true
  | _ => false
theorem can_flat : ∀ xs : List PyData, xs.all flatD = true → PyData.canLayAll0 xs = true ∧ PyData.depthAll xs ≤ 1
  | [], _ => by simp [PyData.canLayAll0, PyData.depthAll]
  | x :: xs, h => by
    have h2 : flatD x = true ∧ xs.all flatD = true := by simpa using h
    obtain ⟨h3, h4⟩ := can_flat xs h2.2
    have h5 : x.canLay0 = true ∧ x.depth ≤ 1 := by
      cases x <;> simp [PyData.canLay0, PyData.depth, flatD] at h2 ⊢
    simp only [PyData.canLayAll0, PyData.depthAll, h5.1, h3, Bool.and_self, true_and]
    omega
theorem sh_flat {xs : List PyData} (h : xs.all flatD = true) : SeqAt.shaped (.list xs) = true ∧ SeqAt.shaped (.tuple xs) = true := by
  obtain ⟨h1, h2⟩ := can_flat xs h
  have a1 : (PyData.list xs).canLay0 = true := by simp only [PyData.canLay0, h1]
  have a2 : (PyData.tuple xs).canLay0 = true := by simp only [PyData.canLay0, h1]
  have b1 : (PyData.list xs).depth ≤ 64 := by
    simp only [PyData.depth]
    omega
  have b2 : (PyData.tuple xs).depth ≤ 64 := by
    simp only [PyData.depth]
    omega
  unfold SeqAt.shaped
  exact ⟨by rw [a1, decide_eq_true b1, Bool.and_self], by rw [a2, decide_eq_true b2, Bool.and_self]⟩
theorem sh_ints (ns : List Int) : SeqAt.shaped (.list (ns.map .int)) = true := (sh_flat (by simp [flatD])).1
theorem sh_nil : SeqAt.shaped (.list []) = true := sh_ints []
end
theorem rd_eqS {a b : Str} : RD K W rEq (.str a) (.str b) (· = .bool (decide (a = b))) := fun D H u v o hu hv Q q => by
  cases hu
  cases hv
  refine ⟨rfl, q _ D H _ (.refl o) (.bl _) ?_⟩
  congr 1
  exact decide_eq_decide.mpr ⟨fun e => by injection e, fun e => by rw [e]⟩
theorem rd_neS {a b : Str} : RD K W rNe (.str a) (.str b) (· = .bool (!decide (a = b))) := fun D H u v o hu hv Q q => by
  cases hu
  cases hv
  refine ⟨rfl, q _ D H _ (.refl o) (.bl _) ?_⟩
  congr 2
  exact decide_eq_decide.mpr ⟨fun e => by injection e, fun e => by rw [e]⟩
theorem rd_eqI {a b : Int} : RD K W rEq (.int a) (.int b) (· = .bool (decide (a = b))) := fun D H u v o hu hv Q q => by
  cases hu
  cases hv
  refine ⟨rfl, q _ D H _ (.refl o) (.bl _) ?_⟩
  congr 1
  exact decide_eq_decide.mpr ⟨fun e => by injection e, fun e => by rw [e]⟩
theorem rd_neI {a b : Int} : RD K W rNe (.int a) (.int b) (· = .bool (!decide (a = b))) := fun D H u v o hu hv Q q => by
  cases hu
  cases hv
  refine ⟨rfl, q _ D H _ (.refl o) (.bl _) ?_⟩
  congr 2
  exact decide_eq_decide.mpr ⟨fun e => by injection e, fun e => by rw [e]⟩
theorem eqv_nil (xs : List PyData) : PyData.eqv (.list xs) (.list []) = xs.isEmpty := by
  cases xs <;> simp [PyData.eqv, PyData.eqvAll]

/-! places -/
theorem DqA.atI {D : Hp} {vs : List V} {ds : List PyData} {i : Int} {d : PyData} (h : DqA K D vs ds) (e : L2.atI ds i = some d) : ∃ v, L2.atI vs i = some v ∧ Dq K D v d := by
  unfold L2.atI at e ⊢
  rw [h.len]
  cases z : ixN ds.length i with
  | none =>
    rw [z] at e
    cases e
  | some j =>
    rw [z] at e
    exact h.at e
theorem rd_ixL {i : Int} (h : atI ds i = some d) : RD K W (rIxL K) (.list ds) (.int i) (· = d) := fun D H u v o hu hv Q q => by
  cases hv
  cases hu with
  | lst h1 h2 =>
    obtain ⟨v, e1, e2⟩ := h2.atI h
    exact ⟨_, _, i, v, rfl, rfl, same_l o.sub h1, e1, q v D H d (.refl o) e2 rfl⟩
theorem rd_ixT {i : Int} (h : atI ds i = some d) : RD K W (rIxT K) (.tuple ds) (.int i) (· = d) := fun D H u v o hu hv Q q => by
  cases hv
  cases hu with
  | tup h1 h2 =>
    obtain ⟨v, e1, e2⟩ := h2.atI h
    exact ⟨_, _, i, v, rfl, rfl, same_t o.sub h1, e1, q v D H d (.refl o) e2 rfl⟩
theorem rd_ixS {z : Str} {i : Int} {c : Nat} (hz : z.length ≤ sizeLine) (h : atI z.cps.toList i = some c) : RD K W rIxS (.str z) (.int i) (· = .str ⟨#[c]⟩) := fun D H u v o hu hv Q q => by
  cases hv
  cases hu
  exact ⟨z, i, c, rfl, rfl, hz, h, q _ D H _ (.refl o) (.str _) rfl⟩
theorem ixN_of {n k : Nat} (h : k < n) : ixN n (k : Int) = some k := by
  unfold ixN
  rw [if_pos (by omega), if_pos (by omega)]
  simp
theorem atI_of {α : Type} {xs : List α} {k : Nat} {x : α} (h : xs[k]? = some x) : atI xs (k : Int) = some x := by
  unfold atI
  rw [ixN_of (List.getElem?_eq_some_iff.mp h).1]
  exact h

/-! parts of texts -/
def EvO (K : PySem.W.Frag) (W : Fx) (to : TO) (ρ : List Sk) : Prop := ∀ D0 H0 D H σ, Env K W D0 H0 D H σ ρ → ∀ Q : Option Int → Hp → Prop,
  (∀ i D' H', Step W D H D' H' → Q i H') → to σ H Q
theorem eo_no : EvO K W tNoPart ρ := fun D0 H0 D H σ e Q q => q none D H (.refl e.ok)
theorem eo_some {P : PyData → Prop} (h : EvN K W te ρ P) (hi : ∀ d, P d → ∃ i, d = .int i) : EvO K W (tPart te) ρ := fun D0 H0 D H σ e Q q =>
  h D0 H0 D H σ e _ fun v D1 H1 d s1 q1 p1 => by
    obtain ⟨i, e1⟩ := hi d p1
    subst e1
    cases q1
    exact ⟨i, rfl, q (some i) D1 H1 s1⟩
/-- a text of at most n signs -/
def isT (n : Nat) (d : PyData) : Prop := ∃ z : Str, d = .str z ∧ z.length ≤ n
/-- an int from lo, below hi -/
def isI (lo hi : Int) (d : PyData) : Prop := ∃ i : Int, d = .int i ∧ lo ≤ i ∧ i < hi
theorem cutS_le (z : Str) (lo hi : Option Int) : (cutS z lo hi).length ≤ z.length := by
  unfold cutS Str.length
  simp only [List.size_toArray, List.length_take, List.length_drop, Array.length_toList]
  omega
theorem ev_slS {n : Nat} {tl th : TO} (h : EvN K W te ρ (isT n)) (hl : EvO K W tl ρ) (hh : EvO K W th ρ) (hn : n ≤ sizeLine) : EvN K W (L2.tSl rSlS te tl th) ρ (isT n) := fun D0 H0 D H σ e Q q =>
  h D0 H0 D H σ e _ fun v D1 H1 d s1 q1 p1 => hl D0 H0 D1 H1 σ (e.step s1) _ fun lo D2 H2 s2 => hh D0 H0 D2 H2 σ ((e.step s1).step s2) _ fun hi D3 H3 s3 => by
    obtain ⟨z, e1, hz⟩ := p1
    subst e1
    cases q1
    exact ⟨z, rfl, Nat.le_trans hz hn, q _ D3 H3 _ ((s1.trans e.ok s2).trans e.ok s3) (.str _) ⟨_, rfl, Nat.le_trans (cutS_le z lo hi) hz⟩⟩
theorem ev_addS {m n : Nat} (ha : EvN K W ta ρ (isT m)) (hb : EvN K W tb ρ (isT n)) (h : m + n ≤ sizeLine) : EvN K W (tOp rAddS ta tb) ρ (isT (m + n)) :=
  ev_op ha hb fun d1 d2 ⟨x, e1, h1⟩ ⟨y, e2, h2⟩ => by
    subst e1
    subst e2
    intro D H u v o hu hv Q q
    refine rd_addS (by omega) D H u v o hu hv Q fun w D' H' d s r e => q w D' H' d s r ⟨_, e, ?_⟩
    rw [PySem.Str.length_append]
    omega
theorem ev_isT {n : Nat} {z : Str} (h : EvD K W te ρ (.str z)) (hz : z.length ≤ n) : EvN K W te ρ (isT n) := h.imp fun d e => ⟨z, e, hz⟩
theorem isT_le {m n : Nat} (h : m ≤ n) {d : PyData} (p : isT m d) : isT n d := by
  obtain ⟨z, e, hz⟩ := p
  exact ⟨z, e, Nat.le_trans hz h⟩

/-! lists of items of one kind -/
def Alls (P : PyData → Prop) (n : Nat) (ds : List PyData) : Prop := ds.length = n ∧ ∀ d ∈ ds, P d
theorem ea_nilA {P : PyData → Prop} : EvA K W tNil ρ (Alls P 0) := ea_nil.imp fun ds e => by
  subst e
  exact ⟨rfl, fun d h => nomatch h⟩
theorem ea_consA {P : PyData → Prop} {n : Nat} {tr : TA} (h : EvN K W te ρ P) (hr : EvA K W tr ρ (Alls P n)) : EvA K W (tCons te tr) ρ (Alls P (n + 1)) := (ea_cons h hr).imp fun ds ⟨d, r, e, p, q, qs⟩ => by
  subst e
  refine ⟨by rw [List.length_cons, q], fun x hx => ?_⟩
  rcases List.mem_cons.mp hx with rfl | hx
  · exact p
  · exact qs x hx
theorem ev_ixL {P1 P2 : PyData → Prop} (ha : EvN K W ta ρ P1) (hb : EvN K W tb ρ P2) (hr : ∀ d1 d2, P1 d1 → P2 d2 → ∃ ds i d, d1 = .list ds ∧ d2 = .int i ∧ atI ds i = some d ∧ P d) : EvN K W (tOp (rIxL K) ta tb) ρ P :=
  ev_op ha hb fun d1 d2 p1 p2 => by
    obtain ⟨ds, i, d, e1, e2, e3, p3⟩ := hr d1 d2 p1 p2
    subst e1
    subst e2
    intro D H u v o hu hv Q q
    exact rd_ixL e3 D H u v o hu hv Q fun w D' H' d' s r e => q w D' H' d' s r (by rw [e]; exact p3)
theorem Alls.pick {P : PyData → Prop} {n : Nat} {ds : List PyData} (h : Alls P n ds) {i : Int} (h0 : 0 ≤ i) (h1 : i < n) : ∃ d, atI ds i = some d ∧ P d := by
  obtain ⟨k, rfl⟩ := Int.eq_ofNat_of_zero_le h0
  have hk : k < ds.length := by
    rw [h.1]
    omega
  exact ⟨ds[k], atI_of (List.getElem?_eq_getElem hk), h.2 _ (List.getElem_mem hk)⟩

/-! lists that stand tracked -/
def EvL (K : PySem.W.Frag) (W : Fx) (te : TE) (ρ : List Sk) (P : List PyData → Prop) : Prop := ∀ D0 H0 D H σ, Env K W D0 H0 D H σ ρ → ∀ Q : VK,
  (∀ l xs D' H' ds, Step W D H D' H' → ¬ W.adr l → H' l = some (.lst xs) → DqA K D' xs ds → P ds → Q (.ref l) H') → te σ H Q
theorem EvF.evl {P : List PyData → Prop} (h : EvF K W te ρ P) : EvL K W te ρ P := fun D0 H0 D H σ e Q q =>
  h D0 H0 D H σ e _ fun l xs D1 H1 ds s1 a b c q1 p1 => q l xs D1 H1 ds s1 (fun hw => W.has H l e.ok.inv hw a) c q1 p1
theorem evl_own {i : Nat} (h : ρ[i]? = some (.own ds)) : EvL K W (tVar i) ρ (· = ds) := fun D0 H0 D H σ e Q q => by
  obtain ⟨o, h1, l, xs, h2, h3, h4, h5, h6, h7⟩ := e.slot i _ h
  subst h2
  exact ⟨_, h1, q l xs D H ds (.refl e.ok) h5 h6 h7 rfl⟩
theorem evf_cat {PA PB : List PyData → Prop} (ha : EvL K W ta ρ PA) (hb : EvL K W tb ρ PB) (hl : ∀ a b, PA a → PB b → a.length + b.length ≤ sizeLine) : EvF K W (tOp rCat ta tb) ρ (fun ds => ∃ a b, PA a ∧ PB b ∧ ds = a ++ b) := fun D0 H0 D H σ e Q q =>
  ha D0 H0 D H σ e _ fun l xs D1 H1 ds s1 w1 c1 q1 p1 => hb D0 H0 D1 H1 σ (e.step s1) _ fun m ys D2 H2 es s2 w2 c2 q2 p2 => by
    have o1 := s1.ok e.ok
    have o2 := s2.ok o1
    have s12 := s1.trans e.ok s2
    refine ⟨l, m, xs, ys, rfl, rfl, s2.off l _ w1 c1, c2, by rw [q1.len, q2.len]; exact hl _ _ p1 p2, fun p hp => ?_⟩
    have hH : H p = none := by
      cases z : H p with
      | none => rfl
      | some u =>
        by_cases hw : W.adr p
        · exact (W.has H2 p s12.inv hw hp).elim
        · rw [s12.off p u hw z] at hp
          cases hp
    exact q p _ D2 _ _ (s12.trans e.ok (.keptH o2 (same_new hp))) hH (o2.sub.free hp) upd_same ((q1.up s2.gro).app q2) ⟨ds, es, p1, p2, rfl⟩
/-- a new list of anything -/
theorem evf_new {xs : Hp → VK → Prop} {t : TE} {vs : List V} (ht : ∀ σ H Q, (∀ l, H l = none → Q (.ref l) (upd H l (.lst vs))) → t σ H Q) (hd : ∀ D, DqA K D vs ds) : EvF K W t ρ (· = ds) := fun D0 H0 D H σ e Q q => by
  refine ht σ H Q fun l hl => ?_
  exact q l vs D _ ds (.keptH e.ok (same_new hl)) hl (e.ok.sub.free hl) upd_same (hd D) rfl
def rListS : List V → Hp → VK → Prop := fun xs H Q => ∃ z : Str, xs = [V.str z] ∧ z.length ≤ sizeLine ∧ ∀ l, H l = none → Q (V.ref l) (upd H l (.lst (z.cps.toList.map fun c => V.str ⟨#[c]⟩)))
theorem DqA.signs {D : Hp} : ∀ cs : List Nat, DqA K D (cs.map fun c => V.str ⟨#[c]⟩) (cs.map fun c => PyData.str ⟨#[c]⟩)
  | [] => .nil
  | c :: cs => .cons (.str _) (DqA.signs cs)
theorem evf_listS {z : Str} (h : EvD K W te ρ (.str z)) (hz : z.length ≤ sizeLine) : EvF K W (tCB rListS (tCons te tNil)) ρ (· = z.cps.toList.map fun c => PyData.str ⟨#[c]⟩) := fun D0 H0 D H σ e Q q =>
  h D0 H0 D H σ e _ fun v D1 H1 d s1 q1 p1 => by
    subst p1
    cases q1
    refine ⟨z, rfl, hz, fun l hl => ?_⟩
    have o1 := s1.ok e.ok
    have hH : H l = none := by
      cases z : H l with
      | none => rfl
      | some u =>
        by_cases hw : W.adr l
        · exact (W.has H1 l s1.inv hw hl).elim
        · rw [s1.off l u hw z] at hl
          cases hl
    exact q l _ D1 _ _ (s1.trans e.ok (.keptH o1 (same_new hl))) hH (o1.sub.free hl) upd_same (DqA.signs _) rfl
theorem DqA.rgC {D : Hp} {a c : Int} (n : Nat) : DqA K D (rgC a c n) ((List.range n).map fun i => PyData.int (a + ((i : Nat) : Int) * c)) := by
  have e : ∀ ks : List Nat, DqA K D (ks.map fun i => V.int (a + ((i : Nat) : Int) * c)) (ks.map fun i => PyData.int (a + ((i : Nat) : Int) * c)) := fun ks => by
    induction ks with
    | nil => exact .nil
    | cons k ks ih => exact .cons (.int _) ih
  exact e _
theorem evf_rg3 {ta : TA} {PA : List PyData → Prop} {P : List PyData → Prop} (h : EvA K W ta ρ PA) (hp : ∀ ds, PA ds → ∃ (i j c : Int) (n : Nat), ds = [.int i, .int j, .int c] ∧ RgC i j c n ∧ n ≤ 2 ^ 24 ∧ P ((List.range n).map fun k => PyData.int (i + ((k : Nat) : Int) * c))) : EvF K W (tLstRg3 ta) ρ P := fun D0 H0 D H σ e Q q =>
  h D0 H0 D H σ e _ fun vs D1 H1 ds s1 q1 p1 => by
    obtain ⟨i, j, c, n, e1, h1, h2, h3⟩ := hp ds p1
    subst e1
    have ev : vs = [.int i, .int j, .int c] := by
      cases q1 with
      | cons a1 q1 =>
        cases a1
        cases q1 with
        | cons a2 q1 =>
          cases a2
          cases q1 with
          | cons a3 q1 =>
            cases a3
            cases q1
            rfl
    refine ⟨i, j, c, n, ev, h1, h2, fun l hl => ?_⟩
    have o1 := s1.ok e.ok
    have hH : H l = none := by
      cases z : H l with
      | none => rfl
      | some u =>
        by_cases hw : W.adr l
        · exact (W.has H1 l s1.inv hw hl).elim
        · rw [s1.off l u hw z] at hl
          cases hl
    exact q l _ D1 _ _ (s1.trans e.ok (.keptH o1 (same_new hl))) hH (o1.sub.free hl) upd_same (DqA.rgC n) h3
theorem ev_dnew : EvD K W tDNewF ρ (.dict []) := fun D0 H0 D H σ e Q q => fun p hp od =>
  q (.ref p) _ _ _ (.made e.ok hp) (.dic (ks := []) (xs := []) (ds := []) (Or.inl ⟨od, upd_same⟩) rfl .nil) rfl

/-! numbers -/
theorem rd_mulL {i j : Int} (h : -(2 ^ 64) < i ∧ i < 2 ^ 64) : RD K W (rI CMul fun i j => .int (i * j)) (.int i) (.int j) (· = .int (i * j)) := rd_I (Or.inl h) fun _ => .int _
theorem rd_mulR {i j : Int} (h : -(2 ^ 64) < j ∧ j < 2 ^ 64) : RD K W (rI CMul fun i j => .int (i * j)) (.int i) (.int j) (· = .int (i * j)) := rd_I (Or.inr h) fun _ => .int _
theorem et_chain {r r' : R2} {b c : Bool} {d1 d2 d3 : PyData} (ha : EvD K W ta ρ d1) (hb : EvD K W tb ρ d2) (hc : EvD K W tc ρ d3) (h1 : RD K W r d1 d2 (· = .bool b)) (h2 : ∀ d, d = d2 → RD K W r' d d3 (· = .bool c)) :
    EvT K W (tTest (tChain r r' ta tb tc)) ρ (· = (b && c)) := fun D0 H0 D H σ e Q q =>
  ha D0 H0 D H σ e _ fun x D1 H1 e1 s1 q1 p1 => hb D0 H0 D1 H1 σ (e.step s1) _ fun y D2 H2 e2 s2 q2 p2 => by
    subst p1
    subst p2
    have s12 := s1.trans e.ok s2
    refine h1 D2 H2 x y (s12.ok e.ok) (q1.up s2.gro) q2 _ fun z D3 H3 d s3 q3 p3 => ?_
    subst p3
    cases q3
    have s13 := s12.trans e.ok s3
    refine ⟨b, rfl, ?_⟩
    cases b with
    | false => exact iteF ⟨false, rfl, q false D3 H3 s13 rfl⟩
    | true =>
      refine iteT (hc D0 H0 D3 H3 σ (e.step s13) _ fun u D4 H4 d4 s4 q4 p4 => ?_)
      subst p4
      have s14 := s13.trans e.ok s4
      refine h2 e2 rfl D4 H4 y u (s14.ok e.ok) ((q2.up s3.gro).up s4.gro) q4 _ fun z D5 H5 d s5 q5 p5 => ?_
      subst p5
      cases q5
      exact ⟨c, rfl, q c D5 H5 (s14.trans e.ok s5) (Bool.true_and c).symm⟩
theorem ev_divmod {i j : Int} {ta : TA} (h : EvA K W ta ρ (· = [.int i, .int j])) (hd : CDiv i j) : EvD K W (tCB (fun xs H Q => ∃ i j, xs = [V.int i, V.int j] ∧ CDiv i j ∧ ∀ (p : Addr), H p = none → Q (V.ref p) (upd H p (.tup [V.int (i / j), V.int (i % j)]))) ta) ρ (.tuple [.int (i / j), .int (i % j)]) := fun D0 H0 D H σ e Q q =>
  h D0 H0 D H σ e _ fun vs D1 H1 ds s1 q1 p1 => by
    subst p1
    cases q1 with
    | cons a1 q1 =>
      cases a1
      cases q1 with
      | cons a2 q1 =>
        cases a2
        cases q1
        refine ⟨i, j, rfl, hd, fun p hp => ?_⟩
        have o1 := s1.ok e.ok
        exact q (.ref p) _ _ _ (s1.trans e.ok (.made o1 hp)) (.tup (Or.inl (Or.inl upd_same)) (.cons (.int _) (.cons (.int _) .nil))) rfl
/-! texts -/
theorem ev_partition {x y : Str} (ha : EvD K W ta ρ (.str x)) (hb : EvD K W tb ρ (.str y)) (hy : (y.length == 0) = false) (hx : x.length ≤ sizeLine) :
    EvD K W (tM1 (fun x xs H Q => ∃ a b, x = V.str a ∧ xs = [V.str b] ∧ (b.length == 0) = false ∧ a.length ≤ sizeLine ∧ ∀ (p : Addr), H p = none → Q (V.ref p) (upd H p (.tup [V.str (Txt.partition a b).fst, V.str (Txt.partition a b).snd.fst, V.str (Txt.partition a b).snd.snd]))) ta tb) ρ
      (.tuple [.str (Txt.partition x y).1, .str (Txt.partition x y).2.1, .str (Txt.partition x y).2.2]) := fun D0 H0 D H σ e Q q =>
  ha D0 H0 D H σ e _ fun v D1 H1 d s1 q1 p1 => by
    subst p1
    cases q1
    refine ⟨⟨x, rfl⟩, hb D0 H0 D1 H1 σ (e.step s1) _ fun u D2 H2 d2 s2 q2 p2 => ?_⟩
    subst p2
    cases q2
    refine ⟨x, y, rfl, rfl, hy, hx, fun p hp => ?_⟩
    have s12 := s1.trans e.ok s2
    exact q (.ref p) _ _ _ (s12.trans e.ok (.made (s12.ok e.ok) hp)) (.tup (Or.inl (Or.inl upd_same)) (.cons (.str _) (.cons (.str _) (.cons (.str _) .nil)))) rfl
theorem ev_split {x y : Str} (ha : EvD K W ta ρ (.str x)) (hb : EvD K W tb ρ (.str y)) (hy : (y.length == 0) = false) (hx : x.length + 2 ≤ sizeLine) :
    EvF K W (tM1 (fun x xs H Q => ∃ a b, x = V.str a ∧ xs = [V.str b] ∧ (b.length == 0) = false ∧ a.length + 2 ≤ sizeLine ∧ rNewStrs (Txt.split a b) H Q) ta tb) ρ (· = (Txt.split x y).map PyData.str) := fun D0 H0 D H σ e Q q =>
  ha D0 H0 D H σ e _ fun v D1 H1 d s1 q1 p1 => by
    subst p1
    cases q1
    refine ⟨⟨x, rfl⟩, hb D0 H0 D1 H1 σ (e.step s1) _ fun u D2 H2 d2 s2 q2 p2 => ?_⟩
    subst p2
    cases q2
    refine ⟨x, y, rfl, rfl, hy, hx, fun p hp => ?_⟩
    have s12 := s1.trans e.ok s2
    have o2 := s12.ok e.ok
    have hH : H p = none := by
      cases z : H p with
      | none => rfl
      | some u =>
        by_cases hw : W.adr p
        · exact (W.has H2 p s12.inv hw hp).elim
        · rw [s12.off p u hw z] at hp
          cases hp
    exact q p _ D2 _ _ (s12.trans e.ok (.keptH o2 (same_new hp))) hH (o2.sub.free hp) upd_same (DqA.strs _) rfl
theorem ev_repS {x : Str} {n : Int} (ha : EvD K W ta ρ (.str x)) (hb : EvD K W tb ρ (.int n)) (h1 : 2 ≤ n) (h2 : n ≤ 100000) (h3 : 1 ≤ x.length) (h4 : x.length ≤ 100) (h5 : (times x n.toNat).length ≤ sizeLine) :
    EvD K W (tOp (fun x y H Q => ∃ (z : Str) (n : Int), x = .str z ∧ y = .int n ∧ 2 ≤ n ∧ n ≤ 100000 ∧ 1 ≤ z.length ∧ z.length ≤ 100 ∧ (times z n.toNat).length ≤ sizeLine ∧ Q (.str (times z n.toNat)) H) ta tb) ρ (.str (times x n.toNat)) :=
  ev_opD ha hb fun D H u v o hu hv Q q => by
    cases hu
    cases hv
    exact ⟨x, n, rfl, rfl, h1, h2, h3, h4, h5, q _ D H _ (.refl o) (.str _) rfl⟩

/-! isinstance -/
def clsD : PyData → String
  | .none => "NoneType"
  | .bool _ => "bool"
  | .int _ => "int"
  | .str _ => "str"
  | .list _ => "list"
  | .tuple _ => "tuple"
  | .dict _ => "dict"
theorem Dq.tyx {H : Hp} : ∀ {d : PyData} {v : V}, (∀ kvs, d ≠ .dict kvs) → Dq K H v d → TyX K H v (.type (clsD d))
  | _, _, _, .non => .base .non
  | _, _, _, .bl _ => .base (.bl _)
  | _, _, _, .int _ => .base (.int _)
  | _, _, _, .str _ => .base (.str _)
  | _, _, _, .lst h _ => by
    rcases h with (h | ⟨o, h⟩) | ⟨o, its, n, e, c, _⟩
    · exact .base (.lst h)
    · exact .base (.frz h)
    · exact .kList e c
  | _, _, _, .tup h _ => by
    rcases h with (h | ⟨o, h⟩) | ⟨o, its, n, e, c, _⟩
    · exact .base (.tup h)
    · exact .fTuple h
    · exact .kTuple e c
  | _, _, n, .dic h _ _ => (n _ rfl).elim
  | _, _, n, .dicT h _ _ => (n _ rfl).elim
theorem ev_isi {T : String} {b : Bool} (h : EvD K W te ρ d) (hn : ∀ kvs, d ≠ .dict kvs) (hk : kitB (clsD d) T = some b) : EvD K W (tCB (rIsi K) (tCons te (tCons (tC (.ty T)) tNil))) ρ (.bool b) := fun D0 H0 D H σ e Q q =>
  h D0 H0 D H σ e _ fun v D1 H1 d s1 q1 p1 => by
    subst p1
    exact ⟨v, .ty T, _, .type T, b, rfl, .ty T, (q1.up s1.sub).tyx hn, kit_ty hk, q _ D1 H1 _ s1 (.bl b) rfl⟩

/-! f-strings -/
def EvJ (K : PySem.W.Frag) (W : Fx) (ts : List TE) (ρ : List Sk) (z : Str) : Prop := ∀ D0 H0 D H σ, Env K W D0 H0 D H σ ρ → ∀ (acc : Str) (Q : Str → Hp → Prop), acc.length + z.length ≤ sizeLine →
  (∀ D' H', Step W D H D' H' → Q (acc ++ z) H') → tJs ts acc σ H Q
theorem ej_nil : EvJ K W [] ρ Str.empty := fun D0 H0 D H σ e acc Q _ q => by
  have := q D H (.refl e.ok)
  rw [Str.append_empty] at this
  exact this
theorem ej_cons {ts : List TE} {x z : Str} (h : EvD K W te ρ (.str x)) (hr : EvJ K W ts ρ z) : EvJ K W (te :: ts) ρ (x ++ z) := fun D0 H0 D H σ e acc Q hz q =>
  h D0 H0 D H σ e _ fun v D1 H1 d s1 q1 p1 => by
    subst p1
    cases q1
    have h1 : (acc ++ x).length = acc.length + x.length := PySem.Str.length_append _ _
    have h2 : (x ++ z).length = x.length + z.length := PySem.Str.length_append _ _
    refine ⟨x, rfl, by omega, hr D0 H0 D1 H1 σ (e.step s1) _ Q (by omega) fun D2 H2 s2 => ?_⟩
    rw [Str.append_assoc]
    exact q D2 H2 (s1.trans e.ok s2)
theorem ev_joined {ts : List TE} {z : Str} (h : EvJ K W ts ρ z) (hz : z.length ≤ sizeLine) : EvD K W (fun σ H Q => tJs ts Str.empty σ H fun out H1 => Q (V.str out) H1) ρ (.str z) := fun D0 H0 D H σ e Q q =>
  h D0 H0 D H σ e Str.empty _ (by have : Str.empty.length = 0 := rfl; omega) fun D1 H1 s1 => by
    have e1 : Str.empty ++ z = z := Str.empty_append z
    rw [e1]
    exact q _ D1 H1 _ s1 (.str z) rfl
theorem ev_fmtI {i : Int} (h : EvD K W te ρ (.int i)) (hz : i.natAbs.log2 < 1920) : EvD K W (tFmt te) ρ (.str (Str.ofString (toString i))) := fun D0 H0 D H σ e Q q =>
  h D0 H0 D H σ e _ fun v D1 H1 d s1 q1 p1 => by
    subst p1
    cases q1
    exact Or.inr ⟨i, rfl, hz, q _ D1 H1 _ s1 (.str _) rfl⟩
theorem ev_f2 {i : Int} (h : EvD K W te ρ (.int i)) (h0 : 0 ≤ i) (h1 : i < 100) : EvD K W (tF2 te) ρ (.str (two i)) := fun D0 H0 D H σ e Q q =>
  h D0 H0 D H σ e _ fun v D1 H1 d s1 q1 p1 => by
    subst p1
    cases q1
    exact ⟨i, rfl, h0, h1, q _ D1 H1 _ s1 (.str _) rfl⟩
end

/-! signs of a text, held against the signs of another -/
section
variable {K : PySem.W.Frag} {W : Fx} {ρ : List Sk} {te : TE} {z F : Str} {i : Nat}
def rIn1 : R2 := fun x y H Q => ∃ (c : Nat) (z : Str), x = V.str ⟨#[c]⟩ ∧ y = V.str z ∧ Q (V.bl (decide (c ∈ z.cps.toList))) H
def rNin1 : R2 := fun x y H Q => ∃ (c : Nat) (z : Str), x = V.str ⟨#[c]⟩ ∧ y = V.str z ∧ Q (V.bl (!decide (c ∈ z.cps.toList))) H
def allF (F : Str) : PyData → Bool
  | .str z => z.cps.toList.all fun c => decide (c ∈ F.cps.toList)
  | _ => false
theorem allF_one {F : Str} {c : Nat} : allF F (.str ⟨#[c]⟩) = decide (c ∈ F.cps.toList) := by simp [allF]
theorem ev_allS (h : EvD K W te ρ (.str z)) (hi : i < ρ.length) (hz : z.length ≤ 100000) :
    EvD K W (tCB (rAll K) (tCons (tLc (iStr te) (gName i) tYes (tOp rIn1 (tVar i) (tC (V.str F))) [i]) tNil)) ρ (.bool (z.cps.toList.all fun c => decide (c ∈ F.cps.toList))) := by
  have hz2 : z.cps.toList.length ≤ 100000 := by
    rw [Array.length_toList]
    exact hz
  have h1 : EvF K W (tLc (iStr te) (gName i) tYes (tOp rIn1 (tVar i) (tC (V.str F))) [i]) ρ (· = (z.cps.toList.map fun c => decide (c ∈ F.cps.toList)).map .bool) := by
    refine (evf_map (ds := z.cps.toList.map fun c => .str ⟨#[c]⟩) (vs := [i]) (fun v hv => by simp at hv; omega) (ei_str h) (by rw [List.length_map]; exact hz2) (fun _ => true) (fun d => .bool (allF F d)) fun d hd => ?_).imp fun ds' e => ?_
    · rw [List.mem_map] at hd
      obtain ⟨c, _, rfl⟩ := hd
      refine ⟨_, [i], fun j hj => hj, eg_name (by rw [wipeR_len]; exact hi), pt_yes, fun _ => ?_⟩
      refine (ev_opD (ev_var (by rw [List.getElem?_set_self (by rw [wipeR_len]; exact hi)])) ev_str rd_inS).imp fun d' e => ?_
      rw [e, allF_one]
    · rw [e, List.filter_eq_self.mpr (fun _ _ => rfl), List.map_map, List.map_map]
      apply List.map_congr_left
      intro c _
      show PyData.bool (allF F _) = PyData.bool _
      rw [allF_one]
  refine (ev_cbD (ea_consD h1.evD ea_nil) rc_all).imp fun d e => ?_
  rw [e, List.all_map]
  rfl
theorem ev_badS (h : EvD K W te ρ (.str z)) (hi : i < ρ.length) (hz : z.length ≤ 100000) :
    EvF K W (tLc (iStr te) (gName i) (tTest (tOp rNin1 (tVar i) (tC (V.str F)))) (tC (V.int 1)) [i]) ρ (· = (z.cps.toList.filter fun c => !decide (c ∈ F.cps.toList)).map fun _ => .int 1) := by
  have hz2 : z.cps.toList.length ≤ 100000 := by
    rw [Array.length_toList]
    exact hz
  refine (evf_map (ds := z.cps.toList.map fun c => .str ⟨#[c]⟩) (vs := [i]) (fun v hv => by simp at hv; omega) (ei_str h) (by rw [List.length_map]; exact hz2) (fun d => !allF F d) (fun d => .int 1) fun d hd => ?_).imp fun ds' e => ?_
  · rw [List.mem_map] at hd
    obtain ⟨c, _, rfl⟩ := hd
    refine ⟨_, [i], fun j hj => hj, eg_name (by rw [wipeR_len]; exact hi), ?_, fun _ => ev_int⟩
    refine (et_testD (ev_opD (ev_var (by rw [List.getElem?_set_self (by rw [wipeR_len]; exact hi)])) ev_str rd_ninS)).imp fun d' e => ?_
    rw [e, allF_one]
  · rw [e, List.filter_map, List.map_map]
    have e2 : ((fun d => !allF F d) ∘ fun c => PyData.str ⟨#[c]⟩) = fun c => !decide (c ∈ F.cps.toList) := by
      funext c
      show (!allF F _) = _
      rw [allF_one]
    rw [e2]
    rfl
end

/-! statements -/
section
variable {K : PySem.W.Frag} {W : Fx} {EX : Hp → Prop} {ρ : List Sk} {P : PyData → Prop} {te : TE} {tr : TS} {O : Out}
theorem st_asgG {g : TG} (h : EvN K W te ρ P) (k : ∀ d, P d → ∃ ρ' js, EvG K W g ρ d ρ' js ∧ StG K W EX tr ρ' O) : StG K W EX (tSeq (tAsg te g) tr) ρ O := fun D0 H0 D H σ Dn e kn kb kc kr kx =>
  h D0 H0 D H σ e _ fun v D1 H1 d s1 q1 p1 => by
    obtain ⟨ρ', js, hg, hk⟩ := k d p1
    refine hg D0 H0 D1 H1 σ (e.step s1) v q1 _ fun σ2 D2 H2 s2 e2 _ _ => ?_
    have g0 : Same D D2 := s1.gro.trans s2.gro
    exact hk D0 H0 D2 H2 σ2 Dn e2 (fun a b c x g2 => kn a b c x (g0.trans g2)) (fun a b c x g2 => kb a b c x (g0.trans g2)) (fun a b c x g2 => kc a b c x (g0.trans g2)) kr kx
theorem st_par {i j : Nat} {ta : TA} {PA : List PyData → Prop} (hi : i < ρ.length) (hj : j < ρ.length) (h : EvA K W ta ρ PA) (k : ∀ ds, PA ds → ∃ d1 d2, ds = [d1, d2] ∧ StG K W EX tr ((ρ.set i (.dat d1)).set j (.dat d2)) O) : StG K W EX (tSeq (tPar i j ta) tr) ρ O := fun D0 H0 D H σ Dn e kn kb kc kr kx =>
  h D0 H0 D H σ e _ fun vs D1 H1 ds s1 q1 p1 => by
    obtain ⟨d1, d2, e1, hk⟩ := k ds p1
    subst e1
    cases q1 with
    | cons a1 q1 =>
      cases q1 with
      | cons a2 q1 =>
        cases q1
        refine ⟨_, _, rfl, ?_⟩
        have e2 := ((e.step s1).set hi a1).set (i := j) (by rw [List.length_set]; exact hj) a2
        exact hk D0 H0 D1 H1 _ Dn e2 (fun a b c x g2 => kn a b c x (s1.gro.trans g2)) (fun a b c x g2 => kb a b c x (s1.gro.trans g2)) (fun a b c x g2 => kc a b c x (s1.gro.trans g2)) kr kx
theorem st_parD {i j : Nat} {ta : TA} {d1 d2 : PyData} (hi : i < ρ.length) (hj : j < ρ.length) (h : EvA K W ta ρ (· = [d1, d2])) (k : StG K W EX tr ((ρ.set i (.dat d1)).set j (.dat d2)) O) : StG K W EX (tSeq (tPar i j ta) tr) ρ O :=
  st_par hi hj h fun ds e => ⟨d1, d2, e, k⟩
/-- a def's own call by keywords alone -/
theorem ev_kwN {Pre : List PyData → Prop} {Post : List PyData → PyData → Prop} {ta : TA} {E : L2.St → XK} {d1 : PyData} (h : EvA K W ta ρ (· = [d1])) (hp : Pre [d1]) (hq : ∀ d, Post [d1] d → P d) :
    EvN K W (tKw 1 (fun {α} => g1) (spN K 1 Pre Post) E ta) ρ P := fun D0 H0 D H σ e Q q =>
  h D0 H0 D H σ e _ fun vs D1 H1 ds s1 q1 p1 => by
    subst p1
    have o1 := s1.ok e.ok
    refine ⟨q1.len, D1, [d1], o1.non, q1, rfl, hp, fun v D' H' d s2 q2 p2 => ?_⟩
    exact q v D' H' d (s1.trans e.ok (.lift o1 s2)) q2 (hq d p2)
/-- a call that does not raise here, of a def that may -/
theorem ev_callRN {cls : Value} {n : Nat} {Pre : List PyData → Prop} {g : List PyData → Option PyData} {ta : TA} {E : XK} {ds : List PyData} {d : PyData} (h : EvA K W ta ρ (· = ds)) (hl : ds.length = n) (hp : Pre ds) (hq : g ds = some d) :
    EvD K W (tCall (spR K cls n Pre g) [] E ta) ρ d := fun D0 H0 D H σ e Q q =>
  h D0 H0 D H σ e _ fun vs D1 H1 ds s1 q1 p1 => by
    subst p1
    have o1 := s1.ok e.ok
    rw [List.append_nil]
    refine ⟨D1, _, o1.non, q1, hl, hp, fun v D' H' d' s2 q2 p2 => ?_, fun D' H' s2 p2 => ?_⟩
    · rw [hq] at p2
      cases p2
      exact q v D' H' d (s1.trans e.ok (.lift o1 s2)) q2 rfl
    · rw [hq] at p2
      cases p2
end
end Dl

/-! ## Numbers and clocks in texts -/
namespace Dl
open PySem PySem.Spec PyProof.Rows L2

def dg (n : Nat) : List Nat := if n < 10 then [48 + n] else [48 + n / 10, 48 + n % 10]
def ofL (cs : List Nat) : Str := ⟨cs.toArray⟩
theorem ofL_app (a b : List Nat) : ofL a ++ ofL b = ofL (a ++ b) := by
  unfold ofL
  exact Str.ext' (by rw [Str.cps_append]; simp)
theorem ofL_tl (z : Str) : ofL z.cps.toList = z := by
  unfold ofL
  exact Str.ext' (by simp)
theorem tl_ofL (cs : List Nat) : (ofL cs).cps.toList = cs := by
  unfold ofL
  simp
theorem len_ofL (cs : List Nat) : (ofL cs).length = cs.length := by
  unfold ofL Str.length
  simp
theorem ofL_inj {a b : List Nat} (h : ofL a = ofL b) : a = b := by
  have := congrArg (fun z : Str => z.cps.toList) h
  simpa [ofL] using this
theorem str_dg : ∀ n : Nat, n < 100 → Str.ofString (toString (n : Int)) = ofL (dg n) := by decide +kernel
theorem int_dg1 : ∀ n : Nat, n < 10 → intText? (ofL [48 + n]) = some (n : Int) := by decide +kernel
theorem int_dg2 : ∀ a : Nat, a < 10 → ∀ b : Nat, b < 10 → intText? (ofL [48 + a, 48 + b]) = some ((10 * a + b : Nat) : Int) := by decide +kernel
def figs : Str := Str.ofString "0123456789"
theorem figs_tl : figs.cps.toList = [48, 49, 50, 51, 52, 53, 54, 55, 56, 57] := by decide +kernel
def isd (c : Nat) : Bool := decide (c ∈ figs.cps.toList)
theorem isd_iff {c : Nat} : isd c = true ↔ 48 ≤ c ∧ c ≤ 57 := by
  unfold isd
  rw [figs_tl]
  simp
  omega
theorem isd_of {c : Nat} (h : isd c = true) : ∃ n, n < 10 ∧ c = 48 + n := ⟨c - 48, by have := isd_iff.mp h; omega, by have := isd_iff.mp h; omega⟩

/-- what read_number reads in a text -/
def rnum (cs : List Nat) (most : Nat) : Option Nat :=
  match cs with
  | [a] => if isd a = true ∧ a - 48 ≤ most then some (a - 48) else none
  | [a, b] => if isd a = true ∧ isd b = true ∧ a ≠ 48 ∧ 10 * (a - 48) + (b - 48) ≤ most then some (10 * (a - 48) + (b - 48)) else none
  | _ => none
theorem rnum_le {cs : List Nat} {most n : Nat} (h : rnum cs most = some n) : n ≤ most := by
  unfold rnum at h
  split at h
  · split at h
    · cases h
      omega
    · cases h
  · split at h
    · cases h
      omega
    · cases h
  · cases h
/-- what int makes of figures -/
theorem int_figs {cs : List Nat} (h : cs.all isd = true) (h1 : 1 ≤ cs.length) (h2 : cs.length ≤ 2) : ∃ n : Nat, intText? (ofL cs) = some (n : Int) ∧ n < 100 ∧
    ((∀ most : Nat, n ≤ most → ofL (dg n) = ofL cs → rnum cs most = some n) ∧ (∀ most : Nat, (most < n ∨ ofL (dg n) ≠ ofL cs) → rnum cs most = none)) := by
  match cs, h1, h2 with
  | [a], _, _ =>
    have ha : isd a = true := by simpa using h
    obtain ⟨n, hn, e⟩ := isd_of ha
    subst e
    refine ⟨n, int_dg1 n hn, by omega, fun most hm _ => ?_, fun most hm => ?_⟩
    · unfold rnum
      simp only
      rw [if_pos ⟨ha, by omega⟩]
      congr 1
      omega
    · unfold rnum
      simp only
      rw [if_neg]
      rintro ⟨_, q⟩
      rcases hm with hm | hm
      · omega
      · apply hm
        unfold dg
        rw [if_pos hn]
  | [a, b], _, _ =>
    have hab : isd a = true ∧ isd b = true := by simpa using h
    obtain ⟨n, hn, e⟩ := isd_of hab.1
    obtain ⟨m, hm, e'⟩ := isd_of hab.2
    subst e
    subst e'
    refine ⟨10 * n + m, int_dg2 n hn m hm, by omega, fun most hle hd => ?_, fun most hh => ?_⟩
    · unfold rnum
      simp only
      have h0 : n ≠ 0 := by
        intro z
        subst z
        have := ofL_inj hd
        unfold dg at this
        rw [if_pos (by omega)] at this
        simp at this
      rw [if_pos ⟨hab.1, hab.2, by omega, by omega⟩]
      congr 1
      omega
    · unfold rnum
      simp only
      rw [if_neg]
      rintro ⟨_, _, q1, q2⟩
      rcases hh with hh | hh
      · omega
      · apply hh
        unfold dg
        rw [if_neg (by omega)]
        have e1 : (10 * n + m) / 10 = n := by omega
        have e2 : (10 * n + m) % 10 = m := by omega
        rw [e1, e2]

/-- a clock's text -/
def clk (m : Nat) : List Nat := dg (m / 60) ++ [58, 48 + m % 60 / 10, 48 + m % 60 % 10]
/-- .. and what is read -/
def rdc (cs : List Nat) : Option Nat :=
  match TL.par [58] [] cs with
  | some (h, [t, o]) => (rnum [t] 5).bind fun t => (rnum [o] 9).bind fun o => (rnum h 47).map fun h => 60 * h + 10 * t + o
  | _ => none
theorem dg_free {n : Nat} : 58 ∉ dg n ∨ 100 ≤ n := by
  by_cases h : n < 100
  · left
    unfold dg
    split
    · simp
      omega
    · simp
      omega
  · right
    omega
theorem rnum_dg : ∀ n : Nat, n < 48 → rnum (dg n) 47 = some n := by decide +kernel
theorem rnum_1 {n most : Nat} (h : n < 10) (hm : n ≤ most) : rnum [48 + n] most = some n := by
  unfold rnum
  simp only
  rw [if_pos ⟨isd_iff.mpr (by omega), by omega⟩]
  congr 1
  omega
theorem rdc_clk {m : Nat} (h : m < 2880) : rdc (clk m) = some m := by
  have hf : 58 ∉ dg (m / 60) := by
    rcases dg_free (n := m / 60) with h1 | h1
    · exact h1
    · omega
  have e : TL.par [58] [] (clk m) = some (dg (m / 60), [48 + m % 60 / 10, 48 + m % 60 % 10]) := by
    have := TL.par_part1 (S := []) (acc := []) (rest := [48 + m % 60 / 10, 48 + m % 60 % 10]) hf
    simpa [clk] using this
  unfold rdc
  rw [e]
  simp only
  rw [rnum_1 (n := m % 60 / 10) (by omega) (by omega), rnum_1 (n := m % 60 % 10) (by omega) (by omega), rnum_dg _ (by omega)]
  simp only [Option.bind_some, Option.map_some, Option.some.injEq]
  omega
theorem rdc_lt {cs : List Nat} {m : Nat} (h : rdc cs = some m) : m < 2880 := by
  unfold rdc at h
  split at h
  · rename_i hh t o _
    cases e1 : rnum [t] 5 with
    | none => rw [e1] at h; cases h
    | some t' =>
      cases e2 : rnum [o] 9 with
      | none => rw [e1, e2] at h; cases h
      | some o' =>
        cases e3 : rnum hh 47 with
        | none => rw [e1, e2, e3] at h; cases h
        | some h' =>
          rw [e1, e2, e3] at h
          simp only [Option.bind_some, Option.map_some, Option.some.injEq] at h
          have := rnum_le e1
          have := rnum_le e2
          have := rnum_le e3
          omega
  · cases h
end Dl
namespace Dl
open PySem PySem.Spec PyProof.Rows L2
theorem first_58 : ∀ cs : List Nat, 58 ∈ cs → ∃ p r, cs = p ++ 58 :: r ∧ 58 ∉ p
  | [], h => nomatch h
  | c :: cs, h => by
    by_cases hc : c = 58
    · subst hc
      exact ⟨[], cs, rfl, fun z => nomatch z⟩
    · have h2 : 58 ∈ cs := by
        rcases List.mem_cons.mp h with e | e
        · exact (hc e.symm).elim
        · exact e
      obtain ⟨p, r, e, hp⟩ := first_58 cs h2
      refine ⟨c :: p, r, by rw [e]; rfl, fun z => ?_⟩
      rcases List.mem_cons.mp z with e | e
      · exact hc e.symm
      · exact hp e
theorem spl_some (cs : List Nat) : ∃ a r, TL.spl [58] 0 [] cs = a :: r := by
  by_cases h : 58 ∈ cs
  · obtain ⟨p, r, e, hp⟩ := first_58 cs h
    have := TL.spl_part1 (S := []) (acc := []) (rest := r) hp
    rw [e]
    exact ⟨_, _, by simpa using this⟩
  · have := TL.spl_last1 (S := []) (acc := []) h
    exact ⟨_, _, this⟩
def col : Str := Str.ofString ":"
theorem col_tl : TL.tl col = [58] := by decide +kernel
theorem rnum_58 {most : Nat} : rnum [58] most = none := by
  unfold rnum
  simp only
  rw [if_neg]
  rintro ⟨h, _⟩
  have := isd_iff.mp h
  omega
theorem split_two (z : Str) : (∃ h r : Str, Txt.split z col = [h, r] ∧ TL.par [58] [] z.cps.toList = some (h.cps.toList, r.cps.toList)) ∨ ((Txt.split z col).length ≠ 2 ∧ rdc z.cps.toList = none) := by
  have key : (Txt.split z col).map TL.tl = TL.spl [58] 0 [] z.cps.toList := by
    have := TL.split_spl z col (by rw [col_tl]; simp) (TL.kind_ok (by decide +kernel))
    rw [col_tl] at this
    exact this
  have klen : (Txt.split z col).length = (TL.spl [58] 0 [] z.cps.toList).length := by
    rw [← key, List.length_map]
  by_cases h : 58 ∈ z.cps.toList
  · obtain ⟨p, r, e, hp⟩ := first_58 _ h
    have e1 : TL.par [58] [] z.cps.toList = some (p, r) := by
      have := TL.par_part1 (S := []) (acc := []) (rest := r) hp
      rw [e]
      simpa using this
    have e2 : TL.spl [58] 0 [] z.cps.toList = p :: TL.spl [58] 0 [] r := by
      have := TL.spl_part1 (S := []) (acc := []) (rest := r) hp
      rw [e]
      simpa using this
    by_cases hr : 58 ∈ r
    · right
      obtain ⟨p2, r2, e3, hp2⟩ := first_58 _ hr
      have e4 : TL.spl [58] 0 [] r = p2 :: TL.spl [58] 0 [] r2 := by
        have := TL.spl_part1 (S := []) (acc := []) (rest := r2) hp2
        rw [e3]
        simpa using this
      obtain ⟨a, b, e5⟩ := spl_some r2
      refine ⟨?_, ?_⟩
      · rw [klen, e2, e4, e5]
        simp only [List.length_cons]
        omega
      · unfold rdc
        rw [e1]
        split
        · rename_i hh t o q
          cases q
          have : t = 58 ∨ o = 58 := by simpa [eq_comm] using hr
          rcases this with rfl | rfl
          · rw [rnum_58]
            rfl
          · rw [rnum_58]
            cases rnum [t] 5 <;> rfl
        · rfl
    · left
      have e4 : TL.spl [58] 0 [] r = [r] := by
        have := TL.spl_last1 (S := []) (acc := []) hr
        simpa using this
      rw [e2, e4] at key
      match hq : Txt.split z col, key with
      | [a, b], key =>
        simp only [List.map_cons, List.map_nil, List.cons.injEq, and_true] at key
        refine ⟨a, b, rfl, ?_⟩
        rw [e1, ← key.1, ← key.2]
      | [], key => simp at key
      | [_], key => simp at key
      | _ :: _ :: _ :: _, key => simp at key
  · right
    refine ⟨?_, ?_⟩
    · have e2 : TL.spl [58] 0 [] z.cps.toList = [z.cps.toList] := by
        have := TL.spl_last1 (S := []) (acc := []) h
        simpa using this
      rw [klen, e2]
      simp
    · unfold rdc
      rw [TL.par_none1 (S := []) h]
end Dl
namespace Dl
open PySem PySem.Spec PyProof.Rows L2
theorem par_len {cs h r : List Nat} (q : TL.par [58] [] cs = some (h, r)) : h.length ≤ cs.length ∧ r.length ≤ cs.length := by
  by_cases hm : 58 ∈ cs
  · obtain ⟨p, r2, e, hp⟩ := first_58 _ hm
    have := TL.par_part1 (S := []) (acc := []) (rest := r2) hp
    rw [e] at q
    have e3 : TL.par [58] [] (p ++ 58 :: r2) = some (p, r2) := by simpa using this
    rw [e3] at q
    cases q
    rw [e]
    simp
    omega
  · rw [TL.par_none1 (S := []) hm] at q
    cases q
theorem rnum_len {cs : List Nat} {m : Nat} (h : ¬ (1 ≤ cs.length ∧ cs.length ≤ 2)) : rnum cs m = none := by
  match cs, h with
  | [], _ => rfl
  | [_], h => simp at h
  | [_, _], h => simp at h
  | _ :: _ :: _ :: _, _ => rfl
theorem rnum_not {cs : List Nat} {m : Nat} (h : cs.all isd = false) : rnum cs m = none := by
  match cs, h with
  | [], _ => rfl
  | [a], h =>
    unfold rnum
    simp only
    rw [if_neg]
    rintro ⟨h1, _⟩
    simp [h1] at h
  | [a, b], h =>
    unfold rnum
    simp only
    rw [if_neg]
    rintro ⟨h1, h2, _⟩
    simp [h1, h2] at h
  | _ :: _ :: _ :: _, _ => rfl
/-- rdc where the text has the parts h, r -/
def rdR (h : List Nat) : List Nat → Option Nat
  | [t, o] => (rnum [t] 5).bind fun t => (rnum [o] 9).bind fun o => (rnum h 47).map fun h => 60 * h + 10 * t + o
  | _ => none
theorem rdc_at {cs h r : List Nat} (q : TL.par [58] [] cs = some (h, r)) : rdc cs = rdR h r := by
  unfold rdc
  rw [q]
  match r with
  | [] => rfl
  | [_] => rfl
  | [_, _] => rfl
  | _ :: _ :: _ :: _ => rfl
theorem rdc_h {cs h r : List Nat} (q : TL.par [58] [] cs = some (h, r)) (hn : rnum h 47 = none) : rdc cs = none := by
  rw [rdc_at q]
  unfold rdR
  split
  · rw [hn]
    rename_i t o
    cases rnum [t] 5 <;> cases rnum [o] 9 <;> rfl
  · rfl
theorem rdc_r {cs h r : List Nat} (q : TL.par [58] [] cs = some (h, r)) (hn : r.length ≠ 2 ∨ r.all isd = false) : rdc cs = none := by
  rw [rdc_at q]
  unfold rdR
  split
  · rename_i t o
    rcases hn with hn | hn
    · exact (hn rfl).elim
    · have : isd t = false ∨ isd o = false := by
        cases h1 : isd t <;> cases h2 : isd o <;> simp_all
      rcases this with h1 | h1
      · have : rnum [t] 5 = none := rnum_not (by simp [h1])
        rw [this]
        rfl
      · have : rnum [o] 9 = none := rnum_not (by simp [h1])
        rw [this]
        cases rnum [t] 5 <;> rfl
  · rfl
end Dl

/-! ## Numbers that are not told, and the well -/
namespace Dl
open PySem PySem.Spec PyProof.Rows L2

def anyI (d : PyData) : Prop := ∃ i : Int, d = .int i
theorem any_of {lo hi : Int} {d : PyData} (h : isI lo hi d) : anyI d := by
  obtain ⟨i, e, _⟩ := h
  exact ⟨i, e⟩
section
variable {K : PySem.W.Frag} {W : Fx} {EX : Hp → Prop} {ρ : List Sk} {P P1 P2 : PyData → Prop} {te ta tb : TE} {d1 d2 : PyData} {tr : TS} {O : Out}
theorem RD.imp {r : R2} (h : RD K W r d1 d2 P1) (f : ∀ d, P1 d → P2 d) : RD K W r d1 d2 P2 := fun D H x y o hx hy Q q =>
  h D H x y o hx hy Q fun v D' H' d s r p => q v D' H' d s r (f d p)
theorem ev_opI {g : Int → Int → Int} (ha : EvN K W ta ρ anyI) (hb : EvN K W tb ρ anyI) : EvN K W (tOp (rI0 fun i j => .int (g i j)) ta tb) ρ anyI :=
  ev_op ha hb fun d1 d2 ⟨i, e1⟩ ⟨j, e2⟩ => by
    subst e1
    subst e2
    exact (rd_I0 fun _ => .int _).imp fun d e => ⟨_, e⟩
theorem ev_opI2 {g : Int → Int → Int} {PI PJ : Int → Prop} (ha : EvN K W ta ρ (fun d => ∃ i, d = .int i ∧ PI i)) (hb : EvN K W tb ρ (fun d => ∃ i, d = .int i ∧ PJ i)) {Pr : Int → Prop} (h : ∀ i j, PI i → PJ j → Pr (g i j)) :
    EvN K W (tOp (rI0 fun i j => .int (g i j)) ta tb) ρ (fun d => ∃ i, d = .int i ∧ Pr i) :=
  ev_op ha hb fun d1 d2 ⟨i, e1, p1⟩ ⟨j, e2, p2⟩ => by
    subst e1
    subst e2
    exact (rd_I0 fun _ => .int _).imp fun d e => ⟨_, e, h i j p1 p2⟩
theorem ev_mulL {c : Int} (hc : -(2 ^ 64) < c ∧ c < 2 ^ 64) (hb : EvN K W tb ρ anyI) : EvN K W (tOp (rI CMul fun i j => .int (i * j)) (tC (.int c)) tb) ρ anyI :=
  ev_op ev_int hb fun d1 d2 e1 ⟨j, e2⟩ => by
    subst e1
    subst e2
    exact (rd_mulL hc).imp fun d e => ⟨_, e⟩
theorem ev_mulI {lo hi : Int} (ha : EvN K W ta ρ (isI lo hi)) (hb : EvN K W tb ρ anyI) (h0 : -(2 ^ 64) < lo) (h1 : hi ≤ 2 ^ 64) : EvN K W (tOp (rI CMul fun i j => .int (i * j)) ta tb) ρ anyI :=
  ev_op ha hb fun d1 d2 ⟨i, e1, q1, q2⟩ ⟨j, e2⟩ => by
    subst e1
    subst e2
    exact (rd_mulL ⟨by omega, by omega⟩).imp fun d e => ⟨_, e⟩
theorem ev_modI {hi : Int} (ha : EvN K W ta ρ anyI) (hb : EvN K W tb ρ (· = .int hi)) (h : 0 < hi) : EvN K W (tOp (rI (fun _ j => j ≠ 0) fun i j => .int (i.fmod j)) ta tb) ρ (isI 0 hi) :=
  ev_op ha hb fun d1 d2 ⟨i, e1⟩ e2 => by
    subst e1
    subst e2
    exact RD.imp (P1 := (· = .int (i.fmod hi))) (rd_I (show hi ≠ 0 by omega) fun _ => .int _) fun d e => ⟨_, e, Int.fmod_nonneg_of_pos i h, Int.fmod_lt_of_pos i h⟩
theorem ev_divI {c : Int} (ha : EvN K W ta ρ anyI) (hb : EvN K W tb ρ (· = .int c)) (h : c ≠ 0 ∧ c.natAbs < 1073741824) : EvN K W (tOp (rI CDivN fun i j => .int (i.fdiv j)) ta tb) ρ anyI :=
  ev_op ha hb fun d1 d2 ⟨i, e1⟩ e2 => by
    subst e1
    subst e2
    exact (rd_I h fun _ => .int _).imp fun d e => ⟨_, e⟩
theorem ev_int1 (h : EvN K W te ρ anyI) : EvN K W (tCB rInt1 (tCons te tNil)) ρ anyI :=
  ev_cb (ea_cons h ea_nil) fun ds ⟨d, r, e, ⟨i, e1⟩, e2⟩ => by
    subst e
    subst e1
    subst e2
    intro D H vs o hv Q q
    exact rc_int1 D H vs o hv Q fun v D' H' d s r p => q v D' H' d s r ⟨i, p⟩
theorem ev_any {i : Int} (h : EvD K W te ρ (.int i)) : EvN K W te ρ anyI := h.imp fun d e => ⟨i, e⟩
theorem ev_isI {i lo hi : Int} (h : EvD K W te ρ (.int i)) (h1 : lo ≤ i) (h2 : i < hi) : EvN K W te ρ (isI lo hi) := h.imp fun d e => ⟨i, e, h1, h2⟩

/-! the well -/
theorem Step.at {W : Fx} {D H H' : Hp} (o : Ok W D H) (h : ∀ p, ¬ W.adr p → H' p = H p) (hi : W.inv H') : Step W D H D H' :=
  ⟨Same.refl D, fun p u e => by
    have : ¬ W.adr p := fun hw => by rw [o.off p hw] at e; cases e
    rw [h p this]
    exact o.sub p u e, fun p u hp e => (h p hp).trans e, fun _ h _ _ => h, hi⟩
variable {a b : Addr}
theorem ev_w (h : ρ[0]? = some .rt) {k : Int} (hk : k = 1 ∨ k = 2) : EvN K (Wl a b) (tOp (rIxL K) (tVar 0) (tC (.int k))) ρ anyI := fun D0 H0 D H σ e Q q => by
  obtain ⟨o, h1, h2⟩ := e.slot 0 _ h
  have h3 : o = some (.ref a) := h2
  subst h3
  obtain ⟨_, cs, m, n, h4, h5⟩ := e.ok.inv
  rcases hk with rfl | rfl
  · exact ⟨_, h1, a, _, 1, .int m, rfl, rfl, Or.inl (Or.inl h4), rfl, q _ D H _ (.refl e.ok) (.int m) ⟨m, rfl⟩⟩
  · exact ⟨_, h1, a, _, 2, .int n, rfl, rfl, Or.inl (Or.inl h4), rfl, q _ D H _ (.refl e.ok) (.int n) ⟨n, rfl⟩⟩
theorem st_wset (h : ρ[0]? = some .rt) (ht : EvN K (Wl a b) te ρ anyI) (k : StG K (Wl a b) EX tr ρ O) : StG K (Wl a b) EX (tSeq (tAsg te (gSub (tVar 0) (tC (.int 2)) rSetL)) tr) ρ O := fun D0 H0 D H σ Dn e kn kb kc kr kx =>
  ht D0 H0 D H σ e _ fun v D1 H1 d s1 q1 ⟨i, e1⟩ => by
    subst e1
    cases q1
    have e1 := e.step s1
    obtain ⟨o, h1, h2⟩ := e1.slot 0 _ h
    have h3 : o = some (.ref a) := h2
    subst h3
    obtain ⟨hab, cs, m, n, h4, h5⟩ := e1.ok.inv
    refine ⟨_, h1, a, _, 2, 2, rfl, rfl, h4, rfl, ?_⟩
    have s2 : Step (Wl a b) D1 H1 D1 (upd H1 a (.lst ([.ref b, .int m, .int n].set 2 (.int i)))) := .at e1.ok (fun p hp => upd_ne fun z => hp (Or.inl z)) ⟨hab, cs, m, i, upd_same, by rw [upd_ne (Ne.symm hab)]; exact h5⟩
    exact k D0 H0 D1 _ σ Dn (e1.step s2) (fun a b c x g2 => kn a b c x ((s1.gro.trans s2.gro).trans g2)) (fun a b c x g2 => kb a b c x ((s1.gro.trans s2.gro).trans g2)) (fun a b c x g2 => kc a b c x ((s1.gro.trans s2.gro).trans g2)) kr kx
end
end Dl

/-! ## The making of the well, the law's start -/
namespace Dl
open PySem PySem.Spec PyProof.Rows L2

section
variable {K : PySem.W.Frag} {W : Fx} {EX : Hp → Prop} {ρ : List Sk} {P P1 P2 : PyData → Prop} {te ta tb : TE} {ds : List PyData} {tr : TS} {O : Out}
theorem fresh_of {D H D1 H1 : Hp} (o : Ok W D H) (s : Step W D H D1 H1) {p : Addr} (hp : H1 p = none) : H p = none := by
  cases z : H p with
  | none => rfl
  | some u =>
    by_cases hw : W.adr p
    · exact (W.has H1 p s.inv hw hp).elim
    · rw [s.off p u hw z] at hp
      cases hp
theorem evf_slL {tl th : TO} (h : EvD K W te ρ (.list ds)) (hl : EvO K W tl ρ) (hh : EvO K W th ρ) : EvF K W (L2.tSl (rSlL K) te tl th) ρ (fun es => ∃ i j, es = (ds.drop i).take j) := fun D0 H0 D H σ e Q q =>
  h D0 H0 D H σ e _ fun v D1 H1 d s1 q1 p1 => hl D0 H0 D1 H1 σ (e.step s1) _ fun lo D2 H2 s2 => hh D0 H0 D2 H2 σ ((e.step s1).step s2) _ fun hi D3 H3 s3 => by
    subst p1
    cases q1 with
    | lst h1 h2 =>
      have s13 := (s1.trans e.ok s2).trans e.ok s3
      have o3 := s13.ok e.ok
      refine ⟨_, _, rfl, same_l ((s2.gro.trans s3.gro).trans o3.sub) h1, fun p hp => ?_⟩
      exact q p _ D3 _ _ (s13.trans e.ok (.keptH o3 (same_new hp))) (fresh_of e.ok s13 hp) (o3.sub.free hp) upd_same (((h2.up s2.gro).up s3.gro).drop _ |>.take _) ⟨_, _, rfl⟩
theorem ei_listN {P : List PyData → Prop} (h : EvN K W te ρ (fun d => ∃ ds, P ds ∧ d = .list ds)) : EvI K W (iList K te) ρ P := fun D0 H0 D H σ e R k =>
  h D0 H0 D H σ e _ fun v D' H' d s q ⟨ds, p, e1⟩ => by
    subst e1
    cases q with
    | lst h1 h2 => exact ⟨_, rfl, ⟨_, same_l s.sub h1⟩, k _ D' H' _ s (.list h1 h2) p⟩
def anyB (d : PyData) : Prop := ∃ b : Bool, d = .bool b
theorem ev_absI (h : EvN K W te ρ anyI) : EvN K W (tCB rAbs (tCons te tNil)) ρ anyI :=
  ev_cb (ea_cons h ea_nil) fun ds ⟨d, r, e, ⟨i, e1⟩, e2⟩ => by
    subst e
    subst e1
    subst e2
    intro D H vs o hv Q q
    exact rc_abs D H vs o hv Q fun v D' H' d s r p => q v D' H' d s r ⟨_, p⟩
theorem ev_intB (h : EvN K W te ρ anyB) : EvN K W (tCB rInt1 (tCons te tNil)) ρ anyI :=
  ev_cb (ea_cons h ea_nil) fun ds ⟨d, r, e, ⟨i, e1⟩, e2⟩ => by
    subst e
    subst e1
    subst e2
    intro D H vs o hv Q q
    exact rc_intB D H vs o hv Q fun v D' H' d s r p => q v D' H' d s r ⟨_, p⟩
theorem ev_opB {g : Int → Int → Bool} (ha : EvN K W ta ρ anyI) (hb : EvN K W tb ρ anyI) : EvN K W (tOp (rI0 fun i j => .bl (g i j)) ta tb) ρ anyB :=
  ev_op ha hb fun d1 d2 ⟨i, e1⟩ ⟨j, e2⟩ => by
    subst e1
    subst e2
    exact RD.imp (P1 := (· = .bool (g i j))) (rd_I0 fun _ => .bl _) fun d e => ⟨_, e⟩
theorem ev_mulR {c : Int} (ha : EvN K W ta ρ anyI) (hc : -(2 ^ 64) < c ∧ c < 2 ^ 64) : EvN K W (tOp (rI CMul fun i j => .int (i * j)) ta (tC (.int c))) ρ anyI :=
  ev_op ha ev_int fun d1 d2 ⟨i, e1⟩ e2 => by
    subst e1
    subst e2
    exact (rd_mulR hc).imp fun d e => ⟨_, e⟩
theorem ints_of : ∀ ds : List PyData, (∀ d ∈ ds, anyI d) → ∃ ns : List Int, ds = ns.map .int
  | [], _ => ⟨[], rfl⟩
  | d :: ds, h => by
    obtain ⟨i, e⟩ := h d List.mem_cons_self
    obtain ⟨ns, e2⟩ := ints_of ds fun x hx => h x (List.mem_cons_of_mem _ hx)
    exact ⟨i :: ns, by rw [e, e2]; rfl⟩
theorem run2 {S1 S2 R : TS} {D : Ends} {σ : L2.St} {H : Hp} (h : tSeq S1 (tSeq S2 tNext) { D with nx := R D } σ H) : tSeq S1 (tSeq S2 R) D σ H := h
end
/-- what the law's own well gives: two new lists -/
def sp_well (K : PySem.W.Frag) : Sp := fun vs H Q _ => ∃ (s : Addr) (ns : List Int), vs = [.ref s] ∧ SqL K H s (ns.map V.int) ∧ ns.length ≤ 63 ∧ ∀ (H' : Hp) (a b : Addr) (cs : List Int) (m n : Int), Same H H' → H a = none → H b = none → a ≠ b →
  H' a = some (.lst [.ref b, .int m, .int n]) → H' b = some (.lst (cs.map V.int)) → Q (.ref a) H'
/-- the law's own promise -/
def sp_law (K : PySem.W.Frag) : Sp := fun vs H Q _ => ∃ (a : Addr) (ns : List Int), vs = [.ref a] ∧ SqL K H a (ns.map V.int) ∧ ns.length ≤ 63 ∧ ∀ H', Q (.bl true) H'
theorem law_end {K : PySem.W.Frag} {H : Hp} {a : Addr} {ns : List Int} (hl : ns.length ≤ 63) (hO : Only H) (hS : SqL K H a (ns.map V.int)) : sp_law K [.ref a] H (fun v _ => v = .bl true) fun _ _ _ => False :=
  ⟨a, ns, rfl, hS, hl, fun _ => rfl⟩
/-- the heap without the well -/
def wout (H : Hp) (a b : Addr) : Hp := fun p => if p = a ∨ p = b then none else H p
theorem ok_wout {H : Hp} {a b : Addr} {cs : List Int} {m n : Int} (hab : a ≠ b) (ha : H a = some (.lst [.ref b, .int m, .int n])) (hb : H b = some (.lst (cs.map V.int))) : Ok (Wl a b) (wout H a b) H :=
  ⟨fun p u e => by
    unfold wout at e
    split at e
    · cases e
    · exact e, ⟨hab, cs, m, n, ha, hb⟩, fun p hp => if_pos hp⟩
end Dl
namespace Dl
open PySem PySem.Spec PyProof.Rows L2
section
variable {K : PySem.W.Frag} {W : Fx} {EX : Hp → Prop} {ρ : List Sk} {P P1 P2 : PyData → Prop} {te ta tb : TE} {ds : List PyData} {tr : TS} {O : Out}
theorem Alls.le {P Q : PyData → Prop} {n : Nat} {ds : List PyData} (h : Alls P n ds) (f : ∀ d, P d → Q d) : Alls Q n ds := ⟨h.1, fun d hd => f d (h.2 d hd)⟩
theorem Alls.app {P : PyData → Prop} {m n : Nat} {as bs : List PyData} (h : Alls P m as) (h2 : Alls P n bs) : Alls P (m + n) (as ++ bs) :=
  ⟨by rw [List.length_append, h.1, h2.1], fun d hd => (List.mem_append.mp hd).elim (h.2 d) (h2.2 d)⟩
theorem str3 : ∀ n : Nat, n < 1000 → (Str.ofString (toString (n : Int))).length ≤ 3 := by decide +kernel
theorem env_rt {n i : Nat} {D H : Hp} {σ : L2.St} (o : Ok W D H) (hσ : σ.length = n) (hi : σ[i]? = some (some W.root)) : Env K W D H D H σ ((List.replicate n .any).set i .rt) where
  ok0 := o
  st := .refl o
  slot := fun j k h => by
    have hin : i < n := by rw [← hσ]; exact (List.getElem?_eq_some_iff.mp hi).1
    by_cases hj : i = j
    · subst hj
      rw [List.getElem?_set_self (by rw [List.length_replicate]; exact hin)] at h
      cases h
      exact ⟨_, hi, rfl⟩
    · rw [List.getElem?_set_ne hj, List.getElem?_replicate] at h
      split at h
      · cases h
        rename_i hlt
        exact ⟨σ[j]'(by omega), List.getElem?_eq_getElem (by omega), trivial⟩
      · cases h
  dist := fun j k l s t ds es h => by
    by_cases hj : i = j
    · subst hj
      have hin : i < n := by rw [← hσ]; exact (List.getElem?_eq_some_iff.mp hi).1
      rw [List.getElem?_set_self (by rw [List.length_replicate]; exact hin)] at h
      cases h
    · rw [List.getElem?_set_ne hj, List.getElem?_replicate] at h
      split at h <;> cases h
theorem len_times (z : Str) (n : Nat) : (times z n).length = n * z.length := by
  unfold times Str.length
  have : ∀ (n : Nat) (acc : Array Nat), ((List.replicate n z.cps).foldl (· ++ ·) acc).size = acc.size + n * z.cps.size := fun n => by
    induction n with
    | zero => intro acc; simp
    | succ n ih =>
      intro acc
      rw [List.replicate_succ, List.foldl_cons, ih, Array.size_append, Nat.succ_mul]
      omega
  rw [this]
  simp
/-- repr of one short text and one number -/
theorem shown_pair (x : Str) (i : Int) (hx : ∀ c ∈ x.cps.toList, c < 16 ^ 8) (h0 : 0 ≤ i) (h1 : i < 1000000) (hz : x.length ≤ 1000) :
    (PyData.list [.str x, .int i]).showable = true ∧ (PyData.list [.str x, .int i]).hasDict = false ∧ (PyData.list [.str x, .int i]).depth ≤ 60 ∧ (PyData.list [.str x, .int i]).shown.length ≤ sizeLine := by
  have hl : i.natAbs.log2 < 1920 := by
    by_cases h3 : i.natAbs = 0
    · rw [h3]; decide
    · have := (Nat.log2_lt (k := 20) h3).mpr (by omega)
      omega
  refine ⟨by simp [PyData.showable, PyData.showableAll, hl], by simp [PyData.hasDict, PyData.hasDictAll], by simp [PyData.depth, PyData.depthAll], ?_⟩
  have e : (PyData.list [.str x, .int i]).shown = Str.ofString "[" ++ (reprText x ++ Str.ofString ", " ++ Str.ofString (toString i)) ++ Str.ofString "]" := by
    rw [PyData.shown_list, PyData.shownAll_cons, PyData.shownAll_cons, PyData.shownAll_nil, PyData.shown_str, PyData.shown_int]
    rfl
  rw [e]
  have h2 := PySem.StrLaws.reprText_len x hx
  have h3 : (Str.ofString (toString i)).length ≤ 6 := PyProof.Rows.toString_length_le h0 (by decide) (by omega)
  have h4 : (Str.ofString "[").length = 1 := by decide +kernel
  have h5 : (Str.ofString "]").length = 1 := by decide +kernel
  have h6 : (Str.ofString ", ").length = 2 := by decide +kernel
  simp only [Str.length_append]
  have := sizeLine_eq
  omega
end
end Dl

/-! ## enumerate of a tuple -/
namespace Dl
open PySem PySem.Spec PyProof.Rows L2

set_option maxHeartbeats 1000000 in
theorem made_enum {v : Value} {ob : Obj} {Hq : Heap → Prop} (B : Begins v ob Hq) :
    Meets (Builtin.«enumerate.__new__» ⟨[.type "enumerate", v], []⟩) (fun _ R s => Hq s.heap ∧
      R (.ok (.ret (.ref (s.heap.push ob).objs.size))) { s with heap := (s.heap.push ob).push { cls := .type "enumerate", data := .fields #[.none, .bool false, .ref s.heap.objs.size, rawInt 0, .none, .none] } }) :=
  .of_wp fun P w A R s both => by
    obtain ⟨hp, gs, dr, tk, os⟩ := s
    obtain ⟨hv, both⟩ := both
    have subs := sub_enumerate
    have iter : ∀ {A' : Around} {E : Value → Shared → Prop} {Q : Value → Shared → Prop}, Q (.ref hp.objs.size) ⟨hp.push ob, gs, dr, tk, os⟩ → wpAny (model P w) A' (pyIter v) Q E ⟨hp, gs, dr, tk, os⟩ :=
      fun q => B.iter P w _ _ ⟨hp, gs, dr, tk, os⟩ _ hv q
    wp_walk using iter
    refine wpAny_stack_any fun _ => wpAny_pure ?_
    split
    · rename_i c5 _ _ _ _ _
      cases c5 == Value.type "enumerate" <;> (wp_walk using iter; exact ⟨_, rfl, both⟩)
    · wp_walk using iter
      exact ⟨_, rfl, both⟩

section
variable {P : Program} {w : World} {A : Around} {E : Value → Shared → Prop} {s : Shared}
theorem enum_of {v : Value} {ob : Obj} {Hq : Heap → Prop} {Q : Value → Shared → Prop} (B : Begins v ob Hq) (hv : Hq s.heap)
    (k : ∀ g : Heap, IsEnum g (s.heap.objs.size + 1) s.heap.objs.size 0 .none → g.get? s.heap.objs.size = some ob → (∀ b u, s.heap.get? b = some u → g.get? b = some u) → Q (.ref (s.heap.objs.size + 1)) { s with heap := g }) :
    wpAny (model P w) A (call (.type "enumerate") [v]) Q E s := by
  refine callType_new F.called_enumerate (by decide) (F.typeCall_enumerate_1 v) (F.newCall_enumerate_1 v) (fun x => F.args_object_init_2 x v) F.entry_enumerate_new (made_enum B) ⟨hv, ?_⟩
  have sz1 : (s.heap.push ob).objs.size = s.heap.objs.size + 1 := Heap.size_push ..
  have at1 := Heap.get?_push_size (s.heap.push ob) (o := { cls := .type "enumerate", data := .fields #[.none, .bool false, .ref s.heap.objs.size, rawInt 0, .none, .none] }) rfl
  show _ ∧ _
  rw [sz1] at at1 ⊢
  exact ⟨⟨_, at1, rfl⟩, k _ at1 (Heap.get?_push_of_some _ (Heap.get?_push_size _ B.free)) fun b u x => Heap.get?_push_of_some _ (Heap.get?_push_of_some _ x)⟩
end

/-- the tuple at a, each item with its place in a new pair -/
def Iet (K : PySem.W.Frag) (a : Addr) : It :=
  ⟨fun i H => ∃ (xs : List V) (x : V), SqT K H a xs ∧ xs[i]? = some x, fun i H v H' => ∃ T x, v = .ref T ∧ H T = none ∧ H' = upd H T (.tup [.int (i : Nat), x]) ∧ ∀ xs, SqT K H a xs → xs[i]? = some x, fun i H => ∃ xs : List V, SqT K H a xs ∧ xs.length ≤ i⟩
theorem turn_enumT {P : Program} {w : World} {K : PySem.W.Frag} {elts : List Expr} {kk : Nat} {tpos : Pos} (a e it : Addr) (hne : e ≠ it) :
    Turn P w K (.Tuple elts kk tpos) (Iet K a) [e, it] e (fun i h => (∃ old, IsEnum h e it ((i : Nat) : Int) old) ∧ h.IsTupleIter it a i) where
  mem := List.mem_cons_self
  obj := fun i h st b hb => by
    obtain ⟨⟨old, he⟩, ⟨o, ho, hc, hd⟩⟩ := st
    rcases (by simpa using hb : b = e ∨ b = it) with z | z <;> subst z
    · exact ⟨_, he, fun v q => nomatch q⟩
    · exact ⟨o, ho, fun v q => by rw [hd] at q; cases q⟩
  keep := fun i h g st k => by
    obtain ⟨⟨old, he⟩, hi⟩ := st
    exact ⟨⟨old, k e (by simp) _ he⟩, hi.at fun o q => k it (by simp) o q⟩
  item := by
    intro X hP hw hK hc i pins s σ H E I hf st hg
    subst hP hw hK
    obtain ⟨⟨old, he⟩, hit⟩ := st
    obtain ⟨xs, x, hq, hx⟩ := hg
    obtain ⟨its, rv, ht, _⟩ := I.tuple hq
    obtain ⟨u, hu, ru⟩ := rv.get hx
    have hel : e < s.heap.objs.size := Heap.lt_size he
    have hil : it < s.heap.objs.size := by
      obtain ⟨_, q, _⟩ := hit
      exact Heap.lt_size q
    by_cases hai : a = it
    · -- the iterator is no tuple
      exfalso
      obtain ⟨o, ho, hcl, hd⟩ := hit
      obtain ⟨o2, ho2, hcl2, _⟩ := (show s.heap.IsTuple a its.toArray from ht)
      rw [hai, ho] at ho2
      cases ho2
      rw [hcl] at hcl2
      exact absurd hcl2 (by decide)
    have hae : a ≠ e := by
      intro z
      obtain ⟨o2, ho2, hcl2, _⟩ := (show s.heap.IsTuple a its.toArray from ht)
      rw [z, (show s.heap.get? e = _ from he)] at ho2
      cases ho2
      simp at hcl2
    have D : Draws X.prog X.w X.A.in1 it [it, a] its.toArray.size (fun i v => its.toArray[i]? = some v) (fun i h => h.IsTupleIter it a i ∧ h.IsTuple a its.toArray) := Draws.tuple (show X.A.in1.handled = none from I.ok.hd hc) it a hai its.toArray
    have hlt : i < its.toArray.size := by
      have := (List.getElem?_eq_some_iff.mp hu).1
      simpa using this
    refine wpAny_pyNext_enum_itemD (i := i) D he ⟨hit, ht⟩ hlt hne (by simp [hne, Ne.symm hae]) fun y g tk hy ho st2 hT hsz hk => ?_
    have hy2 : y = u := by
      have : its[i]? = some y := by simpa using hy
      rw [hu] at this
      cases this
      rfl
    subst hy2
    refine ⟨_, rfl, wpAny_letOwnedTupleGo_enum (s := { s with heap := g, toks := tk + 1 }) ho fun g2 he2 sb => ?_⟩
    have at2 : g2.get? s.heap.objs.size = some { cls := .type "tuple", data := .seq #[.int i tk, y] } := (sb.2 _ (Nat.ne_of_gt hel)).trans hT
    have new : ObjOk X.prog X.w (upd H s.heap.objs.size (.tup [.int (i : Nat), x])) g2 s.heap.objs.size (.tup [.int (i : Nat), x]) :=
      ⟨(by show 2 ≤ sizeLine; decide), [.int i tk, y], .cons ⟨_, rfl⟩ (.cons ru .nil), ⟨_, at2, rfl, _, rfl⟩⟩
    have kept : ∀ b o, b ∉ [e, it] → s.heap.get? b = some o → g2.get? b = some o := fun b o hb q => by
      have h1 : b ≠ e := fun z => hb (by simp [z])
      have h2 : b ≠ it := fun z => hb (by simp [z])
      exact (sb.2 b h1).trans (hk b o h1 h2 q)
    have J : Inv X pins σ (upd H s.heap.objs.size (.tup [.int (i : Nat), x])) { s with heap := g2, toks := tk + 1 } := I.turnedNew (ch := [e, it]) kept hf (Nat.le_refl _) new
    refine ⟨.ref s.heap.objs.size, _, J, rfl, ⟨_, x, rfl, I.hok.fresh (Nat.le_refl _), rfl, fun ys hys => by rw [I.tuple_inj hys hq]; exact hx⟩, ⟨⟨y, ?_⟩, st2.1.at fun o q => (sb.2 it (Ne.symm hne)).trans q⟩, fun b hb => ?_⟩
    · rw [show ((i + 1 : Nat) : Int) = (i : Int) + 1 by omega]
      exact he2
    · have hb2 : b < s.heap.objs.size := by
        rcases (by simpa using hb : b = e ∨ b = it) with z | z <;> subst z
        · exact hel
        · exact hil
      rw [upd_ne (Nat.ne_of_lt hb2)]
      exact (hf b hb).1
  done := by
    intro X hP hw hK hc i pins s σ H E I hf st hg
    subst hP hw hK
    obtain ⟨⟨old, he⟩, hit⟩ := st
    obtain ⟨xs, hq, hx⟩ := hg
    obtain ⟨its, rv, ht, _⟩ := I.tuple hq
    have hl := rv.length
    have none_at : its.toArray[i]? = none := by
      simp
      omega
    have D : Draws X.prog X.w X.A.in1 it [it, a] i (fun _ _ => False) (fun j h => j = i ∧ h.IsTupleIter it a i ∧ h.IsTuple a its.toArray) :=
      { live := fun _ _ st => by
          obtain ⟨_, ⟨o, ho, _⟩, _⟩ := st
          exact ⟨o, ho⟩
        frame := fun _ _ _ st k => ⟨st.1, st.2.1.at fun o q => k it (by simp) o q, st.2.2.at fun o q => k a (by simp) o q⟩
        item := fun j s Q E hj st _ => absurd st.1 (Nat.ne_of_lt hj)
        done := fun s Q E st hE => wpAny_nextOf_tuple_end (show X.A.in1.handled = none from I.ok.hd hc) st.2.1 st.2.2 none_at hE }
    exact wpAny_pyNext_enum_endD D he ⟨rfl, hit, ht⟩ fun g eb => ⟨rfl, I.turnedL (t' := s.toks) (ch := [e, it]) (fun b o hb q => eb b o (fun z => hb (by simp [z])) q) hf⟩
  self := fun A i s Q E st h => by
    obtain ⟨⟨_, he⟩, _⟩ := st
    exact wpAny_pyIter_enum he h

def iEnumT (K : PySem.W.Frag) (ta : TA) : TI := fun σ H R => ta σ H fun vs H1 => ∃ a xs, vs = [.ref a] ∧ SqT K H1 a xs ∧ R (Iet K a) H1
theorem pi_enumT {X : Cx} {e : Expr} {ta : TA} {p pos tpos : Pos} {elts : List Expr} {kk : Nat} (hg : Gl X "enumerate") (hm : X.mg "enumerate" = none) (ha : PA X [e] ta) (one : starEach [e] X.env = [(false, eval e X.env)] := by rfl) :
    PI X (.Tuple elts kk tpos) (.Call (.Name "enumerate" p) [e] [] pos) (iEnumT X.K ta) := by
  constructor
  intro pins s σ H R I h
  refine Call_ (ld_blt I hg hm boot_enumerate (PyProof.Rows.callWith_type1 (thn (ha.run pos pins s σ H _ I h) fun us t1 ⟨vs, H1, J, rel, q1⟩ => ?_) one rfl))
  obtain ⟨a, xs, ev, hq, q⟩ := q1
  subst ev
  obtain ⟨u, rfl, ru⟩ := vals1 rel
  cases ru
  obtain ⟨its, rv, ht, _⟩ := J.tuple hq
  refine enum_of (begins_tuple a its.toArray) (show t1.heap.IsTuple a its.toArray from ht) fun g he hit hk => wpAny_pyIter_enum he ?_
  have J2 : Inv X pins σ H1 { t1 with heap := g } := J.kept (t' := t1.toks) hk
  refine ⟨t1.heap.objs.size + 1, [t1.heap.objs.size + 1, t1.heap.objs.size], _, _, H1, rfl, J2, turn_enumT a (t1.heap.objs.size + 1) t1.heap.objs.size (Nat.succ_ne_self _), ⟨⟨.none, he⟩, ⟨_, hit, rfl, rfl⟩⟩, fun b hb => ?_, q⟩
  have le : t1.heap.objs.size ≤ b := by
    rcases (by simpa using hb : b = t1.heap.objs.size + 1 ∨ b = t1.heap.objs.size) with z | z <;> subst z
    · exact Nat.le_succ _
    · exact Nat.le_refl _
  exact J.fpOk le (J.hok.fresh le)

section
variable {K : PySem.W.Frag} {W : Fx} {ρ : List Sk} {te : TE} {ds : List PyData}
theorem Walks.enumT {D : Hp} {a : Addr} {xs : List V} (h : SqT K D a xs) (q : DqA K D xs ds) : Walks K W D (Iet K a) (enums 0 ds) := fun i D1 H1 o g => by
  have hs : SqT K H1 a xs := same_t (g.trans o.sub) h
  refine ⟨fun d hd => ?_, fun hi => ⟨xs, hs, by rw [q.len]; rw [enums_len] at hi; exact hi⟩⟩
  obtain ⟨d', hd', e⟩ := enums_at hd
  subst e
  obtain ⟨v, hv, qv⟩ := q.at hd'
  refine ⟨⟨xs, v, hs, hv⟩, fun x H2 y => ?_⟩
  obtain ⟨T, x', e1, e2, e3, y⟩ := y
  subst e1
  subst e3
  have e4 := y xs hs
  rw [hv] at e4
  cases e4
  have s2 : Step W D1 H1 (upd D1 T (.tup [.int ((i : Nat) : Int), v])) (upd H1 T (.tup [.int ((i : Nat) : Int), v])) := .made o e2
  refine ⟨_, s2, .tup (Or.inl (Or.inl upd_same)) ?_⟩
  rw [Nat.zero_add]
  exact .cons (.int _) (.cons ((qv.up g).up s2.gro) .nil)
theorem ei_enumT (h : EvD K W te ρ (.tuple ds)) : EvI K W (iEnumT K (tCons te tNil)) ρ (· = enums 0 ds) := fun D0 H0 D H σ e R k =>
  h D0 H0 D H σ e _ fun v D' H' d s q p => by
    subst p
    cases q with
    | tup h1 h2 => exact ⟨_, _, rfl, same_t s.sub h1, k _ D' H' _ s (.enumT h1 h2) rfl⟩
end
end Dl

/-! ## Tuples, parallel assignments with a list, dicts of data -/
namespace Dl
open PySem PySem.Spec PyProof.Rows L2

/-- a statement that raises nothing, in a def that may -/
theorem PS_nox {X : Cx} {st : Stmt} {t : TS} (h : PS X.nox st t) : PS X st t :=
  ⟨fun ps s σ H D J k => wpAny_mono (h.run ps s σ H D (J.wish _) k) (fun _ _ z => z.unwish) fun _ _ z => z.elim⟩

/-! ### tuple(range(a, b, c)) -/
def tTupRg3 (ta : TA) : TE := fun σ H Q => ta σ H fun vs H1 => ∃ (i j c : Int) (n : Nat), vs = [.int i, .int j, .int c] ∧ RgC i j c n ∧ n ≤ 2 ^ 24 ∧ ∀ q, H1 q = none → Q (.ref q) (upd H1 q (.tup (rgC i c n)))
theorem pe_tupRg3 {X : Cx} {a b c : Expr} {ta : TA} {p1 p2 pos1 pos2 : Pos} (hc : X.calm = true) (hg1 : Gl X "tuple") (hm1 : X.mg "tuple" = none) (hg : Gl X "range") (hm : X.mg "range" = none) (ha : PA X [a, b, c] ta)
    (hs : starEach [a, b, c] X.env = (false, eval a X.env) :: starEach [b, c] X.env := by rfl) (hpl : (backTo pos2 (starEach [b, c] X.env)).any (·.1) = false := by rfl)
    (na : starEach [.Call (.Name "range" p2) [a, b, c] [] pos2] X.env = (false, eval (.Call (.Name "range" p2) [a, b, c] [] pos2) X.env) :: starEach [] X.env := by rfl) :
    PE X (.Call (.Name "tuple" p1) [.Call (.Name "range" p2) [a, b, c] [] pos2] [] pos1) (tTupRg3 ta) := by
  refine ⟨fun pins s σ H Q I h => ?_⟩
  refine Call_ (ld_blt I hg1 hm1 boot_tuple (PyProof.Rows.callWith_type1 (args_cons (thn (Q := fun x s1 => ∃ r i j k n t u v H1, x = .ref r ∧ IsRange s1.heap r i j k t u v ∧ Inv X pins σ H1 s1 ∧ RgC i j k n ∧ n ≤ 2 ^ 24 ∧ ∀ q, H1 q = none → Q (.ref q) (upd H1 q (.tup (rgC i k n))))
    (Call_ (ld_blt I hg hm boot_range (PyProof.Rows.callWith_type1 (thn (ha.run pos2 pins s σ H _ I h) fun us s1 ⟨vs, H1, I1, r1, q1⟩ => ?_) hs hpl))) fun x s1 hx => args_nil ?_) na) na))
  · obtain ⟨i, j, k, n, e, ⟨c0, c1, c2, c3⟩, q0, q⟩ := q1
    subst e
    cases r1 with
    | cons r rr =>
      cases rr with
      | cons r' rr =>
        cases rr with
        | cons r'' rr =>
          cases rr
          obtain ⟨t, rfl⟩ := r
          obtain ⟨t', rfl⟩ := r'
          obtain ⟨t'', rfl⟩ := r''
          refine call_range_3 c0 ?_ (.inl (PyProof.noPylong_small c1))
          exact ⟨_, i, j, k, n, t, t', t'', H1, rfl, IsRange.new .., I1.kept (t' := s1.toks) fun b o e => Heap.get?_push_of_some _ e, ⟨c0, c1, c2, c3⟩, q0, q⟩
  · obtain ⟨r, i, j, k, n, t, u, v, H1, ex, hr, I1, ⟨c0, c1, c2, c3⟩, q0, q⟩ := hx
    subst ex
    refine call_tuple_range (n := n) (I1.ok.hd hc) hr c2 c3 q0 fun g tk acc hk hi => ?_
    have I2 : Inv X pins σ H1 { s1 with heap := g, toks := tk } := I1.kept hk
    refine ⟨.ref g.objs.size, upd H1 g.objs.size (.tup (rgC i k n)), I2.laid (t' := tk) (fun c o e => Heap.get?_push_of_some _ e) (Nat.le_refl _) (show ObjOk X.prog X.w _ _ _ (.tup (rgC i k n)) from ⟨?_, acc.toList, vals_rgC hi, ?_⟩), rfl, q _ (I2.hok.fresh (Nat.le_refl _))⟩
    · unfold rgC
      rw [List.length_map, List.length_range, sizeLine_eq]
      omega
    · rw [Array.toArray_toList]
      exact IsTup.new _ _

section
variable {K : PySem.W.Frag} {W : Fx} {EX : Hp → Prop} {ρ : List Sk} {P P1 P2 P3 : PyData → Prop} {te ta tb tc : TE} {ds : List PyData} {tr : TS} {O : Out} {PA PL : List PyData → Prop}
theorem ev_tupRg3 {ta : TA} (h : EvA K W ta ρ PA) (hp : ∀ ds, PA ds → ∃ (i j c : Int) (n : Nat), ds = [.int i, .int j, .int c] ∧ RgC i j c n ∧ n ≤ 2 ^ 24 ∧ P (.tuple ((List.range n).map fun k => PyData.int (i + ((k : Nat) : Int) * c)))) : EvN K W (tTupRg3 ta) ρ P := fun D0 H0 D H σ e Q q =>
  h D0 H0 D H σ e _ fun vs D1 H1 ds s1 q1 p1 => by
    obtain ⟨i, j, c, n, e1, h1, h2, h3⟩ := hp ds p1
    subst e1
    have ev : vs = [.int i, .int j, .int c] := q1.isInts [i, j, c]
    refine ⟨i, j, c, n, ev, h1, h2, fun l hl => ?_⟩
    exact q (.ref l) _ _ _ (s1.trans e.ok (.made (s1.ok e.ok) hl)) (.tup (Or.inl (Or.inl upd_same)) (DqA.rgC n)) h3
/-- tuple(range(n)) -/
theorem ev_tupRg {n : Nat} (h : EvD K W te ρ (.int (n : Int))) (hn : n ≤ 100000) : EvD K W (tTupRg (tRg1 te)) ρ (.tuple (ups 0 n)) := fun D0 H0 D H σ e Q q =>
  h D0 H0 D H σ e _ fun v D1 H1 d s1 q1 p1 => by
    subst p1
    cases q1
    refine ⟨(n : Int), rfl, .of_le (Int.le_refl 0) (by omega) (by decide) (by omega), fun l hl => ?_⟩
    have er : rgV 0 (n : Int) = (List.range n).map fun i => V.int (0 + (i : Nat)) := by
      unfold rgV
      rw [Int.sub_zero, Int.toNat_natCast]
    have dq : ∀ D : Hp, DqA K D (rgV 0 (n : Int)) (ups 0 n) := fun D => by
      rw [er]
      unfold ups
      have aux : ∀ ks : List Nat, DqA K D (ks.map fun i => V.int (0 + (i : Nat))) (ks.map fun (i : Nat) => PyData.int (0 + (i : Int))) := fun ks => by
        induction ks with
        | nil => exact .nil
        | cons k ks ih => exact .cons (.int _) ih
      exact aux _
    exact q (.ref l) _ _ _ (s1.trans e.ok (.made (s1.ok e.ok) hl)) (.tup (Or.inl (Or.inl upd_same)) (dq _)) rfl
def rTupOf (K : PySem.W.Frag) : List V → Hp → VK → Prop := fun xs H Q => ∃ p ys, xs = [.ref p] ∧ ((SqL K H p ys ∧ ∀ l, H l = none → Q (.ref l) (upd H l (.tup ys))) ∨ (SqT K H p ys ∧ Q (.ref p) H))
/-- tuple(a list) -/
theorem ev_tupOfL (h : EvB K W te ρ PA) : EvN K W (tCB (rTupOf K) (tCons te tNil)) ρ (fun d => ∃ ds, PA ds ∧ d = .tuple ds) := fun D0 H0 D H σ e Q q =>
  h D0 H0 D H σ e _ fun l xs D1 H1 ds s1 a q1 p1 => ⟨l, xs, rfl, Or.inl ⟨a, fun p hp => by
    have s2 : Step W D1 H1 (upd D1 p (.tup xs)) (upd H1 p (.tup xs)) := .made (s1.ok e.ok) hp
    exact q (.ref p) _ _ (.tuple ds) (s1.trans e.ok s2) (.tup (Or.inl (Or.inl upd_same)) (q1.up s2.gro)) ⟨ds, p1, rfl⟩⟩⟩
theorem ev_tupOfLD (h : EvB K W te ρ (· = ds)) : EvD K W (tCB (rTupOf K) (tCons te tNil)) ρ (.tuple ds) := (ev_tupOfL h).imp fun d ⟨_, e1, e2⟩ => by rw [e2, e1]
/-- tuple(a tuple): itself -/
theorem ev_tupOfT (h : EvD K W te ρ (.tuple ds)) : EvD K W (tCB (rTupOf K) (tCons te tNil)) ρ (.tuple ds) := fun D0 H0 D H σ e Q q =>
  h D0 H0 D H σ e _ fun v D1 H1 d s1 q1 p1 => by
    subst p1
    cases q1 with
    | tup h1 h2 => exact ⟨_, _, rfl, Or.inr ⟨same_t s1.sub h1, q _ D1 H1 _ s1 (.tup h1 h2) rfl⟩⟩

/-! ### a, b = .., [..]; a, b, c = .., .., [..] -/
theorem Env.new {D0 H0 D H : Hp} {σ : L2.St} {i : Nat} {l : Addr} {sh : Shp} {xs : List V} (e : Env K W D0 H0 D H σ ρ) {D1 H1 : Hp} (s : Step W D H D1 H1) (hn : H l = none) (hd : D1 l = none) (hl : H1 l = some (sh.ho xs)) (q : DqA K D1 xs ds) (hi : i < ρ.length)
    {ρ2 : List Sk} {σ2 : L2.St} (e2 : Env K W D0 H0 D1 H1 σ2 ρ2) (hi2 : i < ρ2.length) (hs : ∀ (j : Nat) t es, j ≠ i → ρ2[j]? = some (.ob t es) → ρ[j]? = some (.ob t es) ∧ σ2[j]? = σ[j]?) : Env K W D0 H0 D1 H1 (σ2.set i (some (.ref l))) (ρ2.set i (.ob sh ds)) := by
  have h0 : H0 l = none := by
    cases z : H0 l with
    | none => rfl
    | some u =>
      by_cases hw : W.adr l
      · exact (W.has H l e.st.inv hw hn).elim
      · rw [e.st.off l u hw z] at hn
        cases hn
  refine e2.setOwn hi2 hd h0 (fun hw => W.has H l e.st.inv hw hn) hl q fun j t es hj hj1 hj2 => ?_
  obtain ⟨hj1, hj3⟩ := hs j t es hj hj1
  rw [hj3] at hj2
  obtain ⟨o, q1, m, ys, q2, q3, q4, q5, q6, q7⟩ := e.slot j _ hj1
  rw [hj2] at q1
  cases q1
  cases q2
  rw [hn] at q6
  cases q6
theorem st_parF {i j : Nat} (hi : i < ρ.length) (hj : j < ρ.length) (ha : EvN K W ta ρ P1) (hb : EvF K W tb ρ PL) (k : ∀ d ds, P1 d → PL ds → StG K W EX tr ((ρ.set i (.dat d)).set j (.own ds)) O) :
    StG K W EX (tSeq (tPar i j (tCons ta (tCons tb tNil))) tr) ρ O := fun D0 H0 D H σ Dn e kn kb kc kr kx =>
  ha D0 H0 D H σ e _ fun v D1 H1 d s1 q1 p1 => hb D0 H0 D1 H1 σ (e.step s1) _ fun l xs D2 H2 ds s2 hn hd hl q2 p2 => by
    have g : Same D D2 := s1.gro.trans s2.gro
    refine ⟨v, .ref l, rfl, ?_⟩
    have e1 := e.step s1
    have e2 := (e1.step s2).set hi (q1.up s2.gro)
    have e3 : Env K W D0 H0 D2 H2 ((σ.set i (some v)).set j (some (.ref l))) ((ρ.set i (.dat d)).set j (.own ds)) := e1.new (sh := .lst) s2 hn hd hl q2 hj e2 (by rw [List.length_set]; exact hj) fun m t es hm h => by
      by_cases him : i = m
      · subst him
        rw [List.getElem?_set_self hi] at h
        cases h
      · rw [List.getElem?_set_ne him] at h
        exact ⟨h, by rw [List.getElem?_set_ne him]⟩
    exact k d ds p1 p2 D0 H0 D2 H2 _ Dn e3 (fun a b c x g2 => kn a b c x (g.trans g2)) (fun a b c x g2 => kb a b c x (g.trans g2)) (fun a b c x g2 => kc a b c x (g.trans g2)) kr kx
theorem st_par3F {i j m : Nat} (hi : i < ρ.length) (hj : j < ρ.length) (hm : m < ρ.length) (ha : EvN K W ta ρ P1) (hb : EvN K W tb ρ P2) (hc : EvF K W tc ρ PL) (k : ∀ d1 d2 ds, P1 d1 → P2 d2 → PL ds → StG K W EX tr (((ρ.set i (.dat d1)).set j (.dat d2)).set m (.own ds)) O) :
    StG K W EX (tSeq (tPar3 i j m (tCons ta (tCons tb (tCons tc tNil)))) tr) ρ O := fun D0 H0 D H σ Dn e kn kb kc kr kx =>
  ha D0 H0 D H σ e _ fun v D1 H1 d s1 q1 p1 => hb D0 H0 D1 H1 σ (e.step s1) _ fun v2 D2 H2 d2 s2 q2 p2 => hc D0 H0 D2 H2 σ ((e.step s1).step s2) _ fun l xs D3 H3 ds s3 hn hd hl q3 p3 => by
    have g : Same D D3 := (s1.gro.trans s2.gro).trans s3.gro
    refine ⟨v, v2, .ref l, rfl, ?_⟩
    have e2 := (e.step s1).step s2
    have e3 := ((e2.step s3).set hi ((q1.up s2.gro).up s3.gro)).set (i := j) (by rw [List.length_set]; exact hj) (q2.up s3.gro)
    have e4 : Env K W D0 H0 D3 H3 (((σ.set i (some v)).set j (some v2)).set m (some (.ref l))) (((ρ.set i (.dat d)).set j (.dat d2)).set m (.own ds)) := e2.new (sh := .lst) s3 hn hd hl q3 hm e3 (by rw [List.length_set, List.length_set]; exact hm) fun x t es hx h => by
      by_cases hjx : j = x
      · subst hjx
        rw [List.getElem?_set_self (by rw [List.length_set]; exact hj)] at h
        cases h
      · rw [List.getElem?_set_ne hjx] at h
        by_cases hix : i = x
        · subst hix
          rw [List.getElem?_set_self hi] at h
          cases h
        · rw [List.getElem?_set_ne hix] at h
          exact ⟨h, by rw [List.getElem?_set_ne hjx, List.getElem?_set_ne hix]⟩
    exact k d d2 ds p1 p2 p3 D0 H0 D3 H3 _ Dn e4 (fun a b c x g2 => kn a b c x (g.trans g2)) (fun a b c x g2 => kb a b c x (g.trans g2)) (fun a b c x g2 => kc a b c x (g.trans g2)) kr kx

/-! ### a dict of data that stands still -/
theorem Env.setDD {D0 H0 D H : Hp} {σ : L2.St} (e : Env K W D0 H0 D H σ ρ) {i : Nat} {v : V} {f : Int → Option PyData} (hi : i < ρ.length) (q : SlotOk K W H0 D H (some v) (.dd f)) : Env K W D0 H0 D H (σ.set i (some v)) (ρ.set i (.dd f)) where
  ok0 := e.ok0
  st := e.st
  slot := fun j k h => by
    have hσ : i < σ.length := e.lt (List.getElem?_eq_getElem hi)
    by_cases hj : i = j
    · subst hj
      rw [List.getElem?_set_self hi] at h
      cases h
      exact ⟨some v, List.getElem?_set_self hσ, q⟩
    · rw [List.getElem?_set_ne hj] at h
      obtain ⟨o, h1, h2⟩ := e.slot j k h
      exact ⟨o, by rw [List.getElem?_set_ne hj]; exact h1, h2⟩
  dist := fun j k l sh th ds es h1 h2 h3 h4 => by
    by_cases hj : i = j
    · subst hj
      rw [List.getElem?_set_self hi] at h1
      cases h1
    · by_cases hk : i = k
      · subst hk
        rw [List.getElem?_set_self hi] at h2
        cases h2
      · rw [List.getElem?_set_ne hj] at h1 h3
        rw [List.getElem?_set_ne hk] at h2 h4
        exact e.dist j k l sh th ds es h1 h2 h3 h4
def EvDD (K : PySem.W.Frag) (W : Fx) (te : TE) (ρ : List Sk) (f : Int → Option PyData) : Prop := ∀ D0 H0 D H σ, Env K W D0 H0 D H σ ρ → ∀ Q : VK,
  (∀ v D' H', Step W D H D' H' → SlotOk K W H0 D' H' (some v) (.dd f) → Q v H') → te σ H Q
theorem st_parDD {i j : Nat} {f : Int → Option PyData} (hi : i < ρ.length) (hj : j < ρ.length) (ha : EvN K W ta ρ P1) (hb : EvDD K W tb ρ f) (k : ∀ d, P1 d → StG K W EX tr ((ρ.set i (.dat d)).set j (.dd f)) O) :
    StG K W EX (tSeq (tPar i j (tCons ta (tCons tb tNil))) tr) ρ O := fun D0 H0 D H σ Dn e kn kb kc kr kx =>
  ha D0 H0 D H σ e _ fun v D1 H1 d s1 q1 p1 => hb D0 H0 D1 H1 σ (e.step s1) _ fun v2 D2 H2 s2 q2 => by
    have g : Same D D2 := s1.gro.trans s2.gro
    refine ⟨v, v2, rfl, ?_⟩
    have e3 := (((e.step s1).step s2).set hi (q1.up s2.gro)).setDD (i := j) (by rw [List.length_set]; exact hj) q2
    exact k d p1 D0 H0 D2 H2 _ Dn e3 (fun a b c x g2 => kn a b c x (g.trans g2)) (fun a b c x g2 => kb a b c x (g.trans g2)) (fun a b c x g2 => kc a b c x (g.trans g2)) kr kx
theorem ev_ddget {i : Nat} {f : Int → Option PyData} {k : Int} {d : PyData} (hρ : ρ[i]? = some (.dd f)) (h : EvD K W te ρ (.int k)) (hf : f k = some d) : EvD K W (tDGet (tVar i) te) ρ d := fun D0 H0 D H σ e Q q => by
  obtain ⟨o, h1, a, kvs, h2, h3, h4⟩ := e.slot i _ hρ
  subst h2
  refine ⟨_, h1, h D0 H0 D H σ e _ fun v D1 H1 d1 s1 q1 p1 => ?_⟩
  subst p1
  cases q1
  rcases h4 k with ⟨_, z⟩ | ⟨v, d2, z1, z2, z3⟩
  · rw [hf] at z
    cases z
  · rw [hf] at z2
    cases z2
    have ha : Rd H1 a (.dK kvs) := same_rd s1.sub (same_rd s1.gro h3)
    refine ⟨a, v, rfl, ?_, q v D1 H1 _ s1 (z3.up s1.gro) rfl⟩
    have g : DGet H1 a (kV (.inl k)) (valV kvs (.inl k)) := .inl ⟨kvs, .inl k, ha, rfl, rfl⟩
    rw [z1] at g
    exact g
theorem ev_ddin {i : Nat} {f : Int → Option PyData} {k : Int} (hρ : ρ[i]? = some (.dd f)) (h : EvD K W te ρ (.int k)) : EvD K W (tDIn te (tVar i)) ρ (.bool (f k).isSome) := fun D0 H0 D H σ e Q q =>
  h D0 H0 D H σ e _ fun v D1 H1 d1 s1 q1 p1 => by
    subst p1
    cases q1
    obtain ⟨o, h1, a, kvs, h2, h3, h4⟩ := (e.step s1).slot i _ hρ
    subst h2
    have ha : Rd H1 a (.dK kvs) := same_rd s1.sub h3
    refine ⟨_, h1, a, _, rfl, .inl ⟨kvs, .inl k, ha, rfl, rfl⟩, ?_⟩
    rcases h4 k with ⟨z1, z2⟩ | ⟨v, d2, z1, z2, z3⟩
    · rw [z1]
      exact q _ D1 H1 _ s1 (.bl _) (by rw [z2]; rfl)
    · rw [z1]
      exact q _ D1 H1 _ s1 (.bl _) (by rw [z2]; rfl)
/-- dict([(k, v), ..]) with unlike keys -/
theorem merge_app : ∀ (more kvs : List (Key × V)), (∀ p ∈ more, ∀ q ∈ kvs, q.1 ≠ p.1) → (more.map (·.1)).Nodup → mergeK kvs more = kvs ++ more
  | [], kvs, _, _ => by simp [mergeK]
  | p :: more, kvs, h, hn => by
    have h1 : putK kvs p.1 p.2 = kvs ++ [(p.1, p.2)] := by
      unfold putK
      rw [if_neg]
      simp only [List.any_eq_true, decide_eq_true_eq, not_exists, not_and]
      exact fun q hq => h p List.mem_cons_self q hq
    have h2 : mergeK kvs (p :: more) = mergeK (kvs ++ [p]) more := by
      show more.foldl _ (putK kvs p.1 p.2) = _
      rw [h1]
      rfl
    rw [List.map_cons, List.nodup_cons] at hn
    rw [h2, merge_app more (kvs ++ [p]) (fun x hx q hq => ?_) hn.2, List.append_assoc]
    · rfl
    · rcases List.mem_append.mp hq with hq | hq
      · exact h x (List.mem_cons_of_mem _ hx) q hq
      · rw [List.mem_singleton] at hq
        subst hq
        intro z
        exact hn.1 (by rw [z]; exact List.mem_map_of_mem hx)
def pairD (p : Int × PyData) : PyData := .tuple [.int p.1, p.2]
def rDict (K : PySem.W.Frag) : List V → Hp → VK → Prop := fun xs H Q => ∃ (a : Addr) (ps : List Addr) (kvs : List (Key × V)), xs = [.ref a] ∧ SqL K H a (ps.map V.ref) ∧ Paired (fun p kv => SqT K H p [kV kv.1, kv.2]) ps kvs ∧
    ∀ p, H p = none → Q (.ref p) (upd H p (.dK (mergeK [] kvs)))
theorem pairs_of_dq {D H : Hp} (sub : Same D H) : ∀ (l : List (Int × PyData)) (xs : List V), DqA K D xs (l.map pairD) → ∃ (ps : List Addr) (kvs : List (Key × V)), xs = ps.map V.ref ∧ Paired (fun p kv => SqT K H p [kV kv.1, kv.2]) ps kvs ∧
    kvs.map (·.1) = l.map (fun p => Sum.inl p.1) ∧ ∀ k : Int, (valV kvs (.inl k) = none ∧ (l.find? fun p => decide (p.1 = k)) = none) ∨ ∃ v p, valV kvs (.inl k) = some v ∧ (l.find? fun p => decide (p.1 = k)) = some p ∧ Dq K D v p.2
  | [], xs, h => by
    cases h
    exact ⟨[], [], rfl, .nil, rfl, fun k => Or.inl ⟨rfl, rfl⟩⟩
  | (n, d) :: l, xs, h => by
    cases h with
    | cons h1 h2 =>
      obtain ⟨ps, kvs, rfl, q1, q2, q3⟩ := pairs_of_dq sub l _ h2
      cases h1 with
      | tup g1 g2 =>
        rename_i a ys
        cases g2 with
        | cons g2 g3 =>
          cases g2
          cases g3 with
          | cons g3 g4 =>
            cases g4
            rename_i v
            refine ⟨a :: ps, (.inl n, v) :: kvs, rfl, .cons (same_t sub g1) q1, by rw [List.map_cons, List.map_cons, q2], fun k => ?_⟩
            by_cases hk : n = k
            · subst hk
              exact Or.inr ⟨v, (n, d), by simp [valV], by simp, g3⟩
            · have e1 : valV ((.inl n, v) :: kvs) (.inl k) = valV kvs (.inl k) := by
                simp [valV, List.find?_cons, hk]
              have e2 : (((n, d) :: l).find? fun p => decide (p.1 = k)) = l.find? fun p => decide (p.1 = k) := by
                simp [List.find?_cons, hk]
              rw [e1, e2]
              exact q3 k
theorem evdd_dict {l : List (Int × PyData)} (h : EvB K W te ρ (· = l.map pairD)) (hn : (l.map (·.1)).Nodup) : EvDD K W (tCB (rDict K) (tCons te tNil)) ρ (fun k => (l.find? fun p => decide (p.1 = k)).map (·.2)) := fun D0 H0 D H σ e Q q =>
  h D0 H0 D H σ e _ fun b xs D1 H1 ds s1 a q1 p1 => by
    subst p1
    have o1 := s1.ok e.ok
    obtain ⟨ps, kvs, rfl, c1, c2, c3⟩ := pairs_of_dq o1.sub l xs q1
    refine ⟨b, ps, kvs, rfl, a, c1, fun p hp => ?_⟩
    have em : mergeK [] kvs = kvs := by
      rw [merge_app kvs [] (fun _ _ _ h => nomatch h) (by
        rw [c2]
        have : l.map (fun p => (Sum.inl p.1 : Key)) = (l.map (·.1)).map Sum.inl := by rw [List.map_map]; rfl
        rw [this]
        exact List.Pairwise.map _ (fun a b hab z => hab (by injection z)) hn)]
      rfl
    rw [em]
    have s2 : Step W D1 H1 (upd D1 p (.dK kvs)) (upd H1 p (.dK kvs)) := .made o1 hp
    refine q (.ref p) _ _ (s1.trans e.ok s2) ⟨p, kvs, rfl, Or.inl upd_same, fun k => ?_⟩
    rcases c3 k with ⟨z1, z2⟩ | ⟨v, x, z1, z2, z3⟩
    · exact Or.inl ⟨z1, by show (l.find? _).map _ = none; rw [z2]; rfl⟩
    · exact Or.inr ⟨v, x.2, z1, by show (l.find? _).map _ = some _; rw [z2]; rfl, z3.up s2.gro⟩
end
end Dl

namespace PySem
namespace LowX
open PySem.W PySem.Calls PyProof.Rows PySem.HandSPX
/-! ### the text of __init__ -/
def iA (p1 p2 : Pos) : Arguments := { posonlyargs := [], args := [{ arg := "self", annotation := none, pos := p1 }, { arg := "given", annotation := none, pos := p2 }], vararg := none, kwonlyargs := [], kw_defaults := [], kwarg := none, defaults := [] }
def iB (q1 q2 q3 q4 : Pos) : List Stmt := [.Assign [.Attribute (.Name "self" q1) "given" q2] (.Name "given" q3) q4]
def iS : Scope := { kind := .function, names := [(PySem.Str.ofString "self", .local), (PySem.Str.ofString "given", .local)], isGenerator := false, isCoroutine := false, more := [] }
/-- what the written part says of Low, at C, and of its __init__, at fI -/
structure LowTxt (cn qn : Str) (K : Frag) (mg : Str → Option Value) (C fI : Addr) : Prop where
  gC : mg cn = some (.ref C)
  cls : ∃ nm q N bs bm sn sub ab col dd k0 k1 k2 k3 k5, K.lookup C = some (excClassObj nm q C N bs bm true sn sub ab col dd k0 k1 k2 k3 k5 "ValueError.__new__") ∧ refsVE bm = true
  sa : findIn K (.ref C) "__setattr__" = some (some (.builtin "object.__setattr__"))
  ga : findIn K (.ref C) "__getattribute__" = some (some (.builtin "BaseException.__getattribute__"))
  gg : findIn K (.ref C) "__getattr__" = some none
  noN : findIn K (.ref C) "given" = some none
  iC : findIn K (.ref C) "__init__" = some (some (.ref fI))
  tC : typeIn K (.ref fI) = some (.type "function")
  kC : keepIn K (.ref C) = true
  exC : subIn K (.ref C) (.type "BaseException") = some true
  tyC : typeIn K (.ref C) = some (.type "type")
  hdC : hasDictIn K C = true
  te : exmOne K (.ref C) (.ref C) = some true
  fn : ∃ (oc : Value) (od : Option Addr) (doc pm : Value) (an : Option Addr) (cdv ct : Value) (osl : Array (Option Value)) (p1 p2 q1 q2 q3 q4 : Pos),
    K.lookup fI = some ⟨oc, od, .func (fnOf "__init__" qn (iA p1 p2) (iB q1 q2 q3 q4) iS .none .none doc pm an cdv ct), osl⟩ ∧ codeIn K cdv qn = true
theorem one_size (v : Value) : [v].length ≤ sizeLine := by
  rw [sizeLine_eq]
  exact (by decide : 1 ≤ 16777216)
theorem kept_but {K : Frag} {h h' : Heap} {x : Addr} (X : K.In h) (hx : K.lookup x = none) (k : ∀ b o, b ≠ x → h.get? b = some o → h'.get? b = some o) : K.In h' := fun a o e =>
  k a o (fun z => by rw [z, hx] at e; cases e) (X a o e)
theorem ldC {M : Model} {s : Shared} {name : Str} {scope : Scope} {L a : Addr} {cd : Value} {m : Str → Option Value} {x : Str} {pos : Pos} {v : Value} {Q : Value → Shared → Prop} {A : Around} {E : Value → Shared → Prop} (hn : s.heap.Ns L m) (hv : m x = some v) (h : Q v s)
    (hk : scope.kind = .function := by rfl) (hl : (envOfC name scope L a cd).kindOf x = some .local := by rfl) (hd : (x == ("__debug__" : Str)) = false := by decide) :
    wpAny M A (eval (.Name x pos) (envOfC name scope L a cd)) Q E s := wpAny_Name (wpAny_loadName_local hk hl hn hv h) hd
/-- what __init__ leaves of a fresh exception at x -/
structure InitEnd (h h' : Heap) (x C dx t1 : Addr) (v : Value) : Prop where
  keep : ∀ b o, b ≠ x → h.get? b = some o → h'.get? b = some o
  obj : h'.get? x = some { cls := .ref C, dict := some dx, data := .fields #[.ref t1, .none, .none, .none, .bool false, .none] }
  dbig : h.objs.size ≤ dx
  dne : dx ≠ x
  ns : h'.Ns1 dx (fun y => if y = "given" then some v else none)
/-- a made Low -/
structure OwnMade (h h' : Heap) (e C d : Addr) (v : Value) : Prop where
  keep : ∀ b o, h.get? b = some o → h'.get? b = some o
  new : h.objs.size ≤ e
  obj : ∃ oe vs, h'.get? e = some oe ∧ oe.cls = .ref C ∧ oe.dict = some d ∧ oe.data = .fields vs ∧ vs[1]? = some .none
  dbig : h.objs.size ≤ d
  dne : d ≠ e
  ns : h'.Ns1 d (fun y => if y = "given" then some v else none)
section
variable {cn qn : Str} {prog : Program} {w : World} {A : Around} {E : Value → Shared → Prop} {R : Result → Shared → Prop} {s : Shared} {K : Frag} {mg : Str → Option Value} {C fI : Addr}
theorem low_init (T : LowTxt cn qn K mg C fI) {x t0 : Addr} {v : Value} (X : K.In s.heap) (hlim : s.heap.NoLimit) (hx : s.heap.get? x = some (excO C t0)) (hnx : K.lookup x = none) (hroom : A.depth < recursionLimit)
    (hq : ∀ h' tk dx, InitEnd s.heap h' x C dx t0 v → R (.ok (.ret .none)) { s with heap := h', toks := tk }) :
    codeAny (model prog w) A (.call (.ref fI) ⟨[.ref x, v], []⟩) R s := by
  obtain ⟨oc, od, doc, pm, an, cdv, ct, osl, p1, p2, q1, q2, q3, q4, ho, hcd⟩ := T.fn
  obtain ⟨nm, q, N, bs, bm, sn, sub, ab, col, dd, k0, k1, k2, k3, k5, hC, hbm⟩ := T.cls
  have hcl : clsIn K C = some { name := nm, bases := bs, mro := .ref C :: bm, ns := N, qualname := q, hasDict := true, slotNames := sn, subclasses := sub, abstract := ab, collection := col, hasDel := false } := by unfold clsIn; rw [hC] <;> rfl
  refine Att.call_fn (binds := [("self", .ref x), ("given", v)]) X hlim ho hcd hroom (BindsTo.of_eq (by first | rfl | with_unfolding_all rfl)) (by first | rfl | decide | with_unfolding_all rfl) (fun s₁ IC => ?_) rfl rfl rfl
  obtain ⟨h₁, tk₁, rfl⟩ := IC.toInCall.same
  have k : ∀ b o, s.heap.get? b = some o → h₁.get? b = some o := IC.toInCall.keep
  have hn := IC.toInCall.ns
  have hxL : s.heap.objs.size ≠ x := Nat.ne_of_gt (Heap.lt_size hx)
  have X₁ : K.In h₁ := X.keeps k
  have hx₁ := k _ _ hx
  -- self.by = by
  show wpAny _ _ (execs _ _) _ _ _
  refine wpAny_execs_cons (plainObj_wpAny_Assign_Attribute ?_)
  refine ldC (v := v) hn (by first | rfl | with_unfolding_all rfl | kernel_rfl) (ldC (v := .ref x) hn (by first | rfl | with_unfolding_all rfl | kernel_rfl) ?_)
  refine set_plain X₁ (ox := excO C t0) (od := none) ⟨hx₁, rfl, rfl, trivial⟩ T.sa ?_
  refine exc_osa X₁ hx₁ hcl (show refsVE (.ref C :: bm) = true from hbm) rfl T.noN (fun h₃ tk₃ dx k₃ dn dne hx₃ hn₃ => ?_)
  show wpAny _ _ (execs _ _) _ _ _
  have z : s.heap.objs.size < h₁.objs.size := hn.lt
  exact wpAny_execs_nil (hq h₃ tk₃ dx ⟨fun b o hb e => k₃ b o hb (k b o e), hx₃, Nat.le_of_lt (Nat.lt_of_lt_of_le z dn), dne, hn₃⟩)
theorem low_made (T : LowTxt cn qn K mg C fI) {v : Value} (X : K.In s.heap) (hlim : s.heap.NoLimit) (hroom : A.depth + 1 < recursionLimit)
    (hq : ∀ h' tk e d, OwnMade s.heap h' e C d v → R (.ok (.ret (.ref e))) { s with heap := h', toks := tk }) :
    codeAny (model prog w) A (.call (.ref C) ⟨[v], []⟩) R s := by
  obtain ⟨nm, q, N, bs, bm, sn, sub, ab, col, dd, k0, k1, k2, k3, k5, hC, hbm⟩ := T.cls
  obtain ⟨hp, g, dr, tk, os⟩ := s
  have k : ∀ b o, hp.get? b = some o → ((hp.push (kdv_tup [v])).push (excO C hp.objs.size)).get? b = some o := fun b o e => Heap.get?_push_of_some _ (Heap.get?_push_of_some _ e)
  have hget : ((hp.push (kdv_tup [v])).push (excO C hp.objs.size)).get? (hp.objs.size + 1) = some (excO C hp.objs.size) := by heap_get
  have hnx : K.lookup (hp.objs.size + 1) = none := by
    cases e : K.lookup (hp.objs.size + 1) with
    | none => rfl
    | some o =>
      have z : hp.get? (hp.objs.size + 1) = some o := X _ _ e
      exact absurd (Nat.lt_of_succ_lt (Heap.lt_size z)) (Nat.lt_irrefl _)
  refine call_own F.excBase_ValueError (fun X => refsVE_contains X bm hbm) (X _ _ hC) (looks_findIn X T.iC) (fun self => bind_fn X self T.tC) (one_size v) ?_
  refine low_init (s := ⟨(hp.push (kdv_tup [v])).push (excO C hp.objs.size), g, dr, tk, os⟩) T (X.keeps k) (hlim.keeps k) hget hnx ?_ fun h' tk' dx ⟨k', hx, dn, dne, hns⟩ => ?_
  · show A.depth + 1 < recursionLimit
    exact hroom
  · have old : ∀ b o, hp.get? b = some o → h'.get? b = some o := fun b o e => k' b o (Nat.ne_of_lt (Nat.lt_succ_of_lt (Heap.lt_size e))) (k b o e)
    have z : hp.objs.size + 1 + 1 ≤ dx := by
      first
        | (simpa only [Heap.size_push] using dn)
        | exact dn
        | (have q := dn; rw [Heap.size_push, Heap.size_push] at q; exact q)
    exact ⟨rfl, hq h' tk' (hp.objs.size + 1) dx ⟨old, Nat.le_succ _, ⟨_, _, hx, rfl, rfl, rfl, rfl⟩, Nat.le_trans (Nat.le_trans (Nat.le_succ _) (Nat.le_succ _)) z, dne, hns⟩⟩
end
end LowX
end PySem
namespace L2
open PySem PySem.Spec PyProof.Rows
theorem relO_low {v : V} {v' : Value} (r : RelV v v') (f : Str) : RelO (List.lookup f [(("given" : Str), v)]) (if f = "given" then some v' else none) := by
  by_cases hw : f = "given"
  · subst hw
    rw [if_pos rfl]
    have q : List.lookup ("given" : Str) [(("given" : Str), v)] = some v := by simp [List.lookup]
    rw [q]
    exact r
  · rw [if_neg hw]
    have qw : (f == ("given" : Str)) = false := by simpa using hw
    have q2 : List.lookup f [(("given" : Str), v)] = none := by simp [List.lookup, qw]
    rw [q2]
    trivial
section
variable {cn qn : Str} {X : Cx} {C fI : Addr}
/-- Low(e) -/
def tMkLow (C : Addr) (ta : TA) : St → Hp → XK → Prop := fun σ H Q => ta σ H fun vs H1 => ∃ v, vs = [v] ∧ ∀ d, H1 d = none → Q (.ref C) (some d) (upd H1 d (.xd [(("given" : Str), v)]))
theorem pmk_low {a : Expr} {ta : TA} {p pos : Pos} {k : Nat} (T : PySem.LowX.LowTxt cn qn X.K X.mg C fI) (hr : Room k X.A) (ha : PA X [a] ta) (hg : Gl X cn := by rfl) (hdb : (cn == ("__debug__" : Str)) = false := by decide)
    (he : starEach (a :: []) X.env = (false, eval a X.env) :: starEach [] X.env := by rfl) (hpl : (backTo pos (starEach [] X.env)).any (·.1) = false := by rfl) :
    PMk X (.Call (.Name cn p) [a] [] pos) (tMkLow C ta) := by
  intro pins s σ H Q I h
  refine wpAny_Call_Name_kw (ld_glob I hg T.gC ?_ hdb)
  refine PySem.W.callWith_K (h₀ := X.base) I.ok.mod.kin T.kC (thn (ha.run pos pins s σ H _ I h) fun us s1 hh => ?_) he hpl
  obtain ⟨vs, H1, I1, r1, v, ev, q1⟩ := hh
  subst ev
  refine ⟨I1.kIn, ?_⟩
  cases r1 with
  | cons rv rn =>
    rename_i v' us'
    cases rn
    show wpAny _ _ (call (.ref C) [v']) _ _ _
    have hlim := I1.nolimit
    obtain ⟨hp, g, dr, tk, os⟩ := s1
    refine wpAny_call (PySem.LowX.low_made T I1.kIn hlim (by have := hr.dp; omega) fun h' tk' e d M => ?_)
    show MkP X pins σ Q (.ref e) ⟨h', g, dr, tk', os⟩
    obtain ⟨oe, fv, hoe, hc, hd, hdat, h1⟩ := M.obj
    have hns := M.ns
    obtain ⟨G', g1, g2⟩ := restrict h' fun b => decide (b ≠ e)
    have gk : ∀ b, b ≠ e → G'.get? b = h'.get? b := fun b hb => g1 b (decide_eq_true hb)
    have ge : G'.get? e = none := g2 e (by simp)
    have old : ∀ b o, hp.get? b = some o → G'.get? b = some o := fun b o q => (gk b (Nat.ne_of_lt (Nat.lt_of_lt_of_le (Heap.lt_size q) M.new))).trans (M.keep b o q)
    have ob : ObjOk X.prog X.w (upd H1 d (.xd [(("given" : Str), v)])) G' d (.xd [(("given" : Str), v)]) :=
      ⟨_, hns.at (fun o q => (gk d M.dne).trans q), fun f => relO_low rv f⟩
    have J : Inv X pins σ (upd H1 d (.xd [(("given" : Str), v)])) ⟨G', g, dr, tk', os⟩ := I1.laid (t' := tk') old M.dbig ob
    refine ⟨e, oe, fv, ⟨G', g, dr, tk', os⟩, _, .ref C, some d, rfl, J, fun b o q => ?_, ge, hoe, ⟨hc, hd⟩, hdat, h1, ?_, rfl, I1.bare, raises_own T.exC T.tyC, q1 d (I1.hok.fresh M.dbig)⟩
    · by_cases hb : b = e
      · have q' : G'.get? b = some o := q
        rw [hb, ge] at q'; cases q'
      · exact (gk b hb).symm.trans q
    · rw [upd_ne (Ne.symm M.dne)]
      exact I1.hok.fresh M.new
/-- raise Low(e) -/
def tRaiseLow (C : Addr) (W : WX) (ta : TA) : TS := fun _ σ H => tMkLow C ta σ H fun cls d H' => W cls d σ H'
theorem ps_raiseLow {a : Expr} {ta : TA} {W : WX} {p pos pos2 : Pos} {k : Nat} (hc : X.calm = true) (T : PySem.LowX.LowTxt cn qn X.K X.mg C fI) (hr : Room k X.A) (tk : Takes X W) (ha : PA X [a] ta) (hg : Gl X cn := by rfl) (hdb : (cn == ("__debug__" : Str)) = false := by decide)
    (he : starEach (a :: []) X.env = (false, eval a X.env) :: starEach [] X.env := by rfl) (hpl : (backTo pos (starEach [] X.env)).any (·.1) = false := by rfl) :
    PS X (.Raise (some (.Call (.Name cn p) [a] [] pos)) none pos2) (tRaiseLow C W ta) := ps_raise hc tk (pmk_low T hr ha hg hdb he hpl)
/-- low.by, low the exception that the suite holds (at a; its class cls, its dict d) -/
def tByLow (C : Addr) (a : Addr) (cls : Value) (d : Option Addr) (te : TE) : TE := fun σ H Q => te σ H fun x H1 => x = .ref a ∧ cls = .ref C ∧ ∃ (dd : Addr) (v : V), d = some dd ∧ H1 dd = some (.xd [(("given" : Str), v)]) ∧ Q v H1
theorem pe_byLow {a : Addr} {oe : Obj} {cls : Value} {d : Option Addr} {pn : List (Addr × Obj)} {e : Expr} {te : TE} {pos : Pos} (T : PySem.LowX.LowTxt cn qn X.K X.mg C fI) (hz : Zc cls d oe) (hf : ∃ vs, oe.data = .fields vs) (he : PE (X.suite a ((a, oe) :: pn)) e te)
    (hb : attributeBase e "given" X.env (eval e X.env) = eval e X.env := by rfl) :
    PE (X.suite a ((a, oe) :: pn)) (.Attribute e "given" pos) (tByLow C a cls d te) := by
  refine ⟨fun pins s σ H Q I h => ?_⟩
  refine attr_of hb (thn (he.run pins s σ H _ I h) fun u s1 hh => ?_)
  obtain ⟨x, H1, I1, rx, ex, ec, dd, v, ed, ea, q⟩ := hh
  subst ex
  obtain rfl : u = Value.ref a := rx
  subst ec
  subst ed
  obtain ⟨ha, _⟩ := I1.pin (a, oe) (List.mem_append_left _ List.mem_cons_self)
  obtain ⟨vs, hd⟩ := hf
  have hx : ObjOk X.prog X.w H1 s1.heap dd (.xd [(("given" : Str), v)]) := I1.hok dd _ ea
  obtain ⟨mA, hns, hr⟩ := hx
  obtain ⟨od, ho, hl⟩ := lookIn_ns hns
  have l : List.lookup ("given" : Str) [(("given" : Str), v)] = some v := by simp [List.lookup]
  obtain ⟨u, hu, ru⟩ := RelO.some_of (v := v) (o := mA "given") (by rw [← l]; exact hr "given")
  have J : PySem.W.InstAt s1.heap a oe C (some od) := ⟨ha, hz.1, by unfold PySem.W.notCls; rw [hd] <;> rfl, by rw [hz.2]; exact ho⟩
  exact HandSPX.exc_get I1.kIn J T.ga T.gg T.exC (PySem.W.findObj_own T.hdC T.noN rfl (by rw [hl, hu])) (handed_of ru) ⟨v, H1, I1.tok _, ru, q⟩
end
end L2


/-! ## isinstance of a caught error that has a dict of its own -/
namespace Dl
open PySem PySem.W PySem.Spec PySem.Calls PyProof.Rows
section
variable {Pg : Program} {w : World} {A : Around} {E : Value → Shared → Prop} {s : Shared} {F : Frag} {x D : Addr} {ob : Obj} {dd : Option Obj}
theorem find_cls {nm : Str} {a g : Value} (c1 : (clsIn F D).isSome = true) (c2 : findIn F (.ref D) nm = some (some a)) (c3 : specialIn F a "__get__" = some (some g)) (c4 : takesIn F a = some true) : findObj F D dd nm = some (.bind g a) := by
  cases z : clsIn F D with
  | none =>
    rw [z] at c1
    cases c1
  | some cd =>
    unfold findObj
    rw [z, Option.bind_some, c2, Option.bind_some]
    simp [c3, c4]
theorem cls_of_exc {Q : Option Value → Shared → Prop} (C : L2.ExcC F D) (X : F.In s.heap) (I : InstAt s.heap x ob D dd)
    (k : Q (some (.ref D)) { s with toks := s.toks + 1 }) : wpAny (model Pg w) A (getAttr? (.ref x) "__class__") Q E s := by
  have at1 : findObj F D dd "__class__" = some (.bind (.builtin "getset_descriptor.__get__") (.builtin "object.__class__")) := by
    refine find_cls ?_ C.ha C.hn C.ht
    obtain ⟨cd, hc, _⟩ := any_some C.hd
    rw [hc]
    rfl
  obtain ⟨hp, gs, dr, tk, os⟩ := s
  have l0 := I.type (M := model Pg w)
  have l1 := looks_findIn (M := model Pg w) X C.hg
  have l2 := looks_findIn (M := model Pg w) X C.hk
  have l3 := looks_find (M := model Pg w) X I at1
  have isE : Looks (model Pg w) hp (isInstance (.ref x) (.type "BaseException")) true := l0.andThen (looks_subIn X C.hs)
  have n0 : (false && onTheHeap (Value.builtin "BaseException.__getattribute__")) = false := rfl
  have n2 : (Value.builtin "BaseException.__getattribute__" == Value.builtin "object.__getattribute__") = false := by
    decide +kernel
  have n1 : (onTheHeap (Value.ref D) && Value.builtin "BaseException.__getattribute__" == Value.builtin "object.__getattribute__") = false := by
    rw [n2]
    rfl
  unfold getAttr?
  unfold getAttrBy?
  unfold getAttrBy
  refine wpAny_bind (wpAny_mkText (wpAny_bind (wpAny_attempt (wpAny_holding (wpAny_bind (l0.at (wpAny_bind (l1.at ?_))))))))
  show wpAny _ _ (ite ((onTheHeap (Value.ref D) && Value.builtin "BaseException.__getattribute__" == Value.builtin "object.__getattribute__") = true) _ _) _ _ _
  rw [n1, if_neg Bool.false_ne_true]
  unfold getAttrByItsOwn
  unfold hookBefore
  refine wpAny_bind ?_
  rw [if_pos (show onTheHeap (Value.ref D) = true by rfl)]
  refine l2.at (wpAny_bind (wpAny_attempt (wpAny_holding ?_)))
  unfold callGetattribute
  rw [n0, if_neg Bool.false_ne_true]
  unfold boundAndCalled
  rw [PySem.F.excAttr_ValueError.ga.bind (Value.ref x)]
  refine wpAny_bind (wpAny_pure ?_)
  show wpAny _ _ (call (.builtin "BaseException.__getattribute__") [Value.ref x, .str "__class__" tk]) _ _ _
  refine wpAny_call (codeAny_call_builtin PySem.F.excAttr_ValueError.ga.plain PySem.F.entry_bexc_ga ?_)
  refine @check_slot (model Pg w) _ _ ⟨hp, gs, dr, tk + 1, os⟩ "BaseException.__getattribute__" "BaseException" "__getattribute__" (.ref x) [.str "__class__" tk] [] _ (by decide +kernel) (by decide +kernel) isE (PySem.F.args_bexc_ga (.ref x) (.str "__class__" tk)) ?_
  unfold Builtin.«object.__getattribute__»
  refine wpAny_bind (wpAny_of_eq (a := ((Value.ref x : Value), [Value.str "__class__" tk])) (by first | rfl | (simp only [slotArgs]; rfl)) ?_)
  refine wpAny_bind (wpAny_pure (wpAny_bind (l0.at (wpAny_bind (l3.at ?_)))))
  show wpAny _ _ (holding [Value.builtin "object.__class__"] (call (.builtin "getset_descriptor.__get__") [Value.builtin "object.__class__", .ref x, .ref D]) >>= ret) _ _ _
  refine wpAny_bind (wpAny_holding (wpAny_call (class_get (s := ⟨hp, gs, dr, tk + 1, os⟩) (ox := ob) (od := dd) X I C.hm ?_)))
  refine wpAny_pure ?_
  show wpAny _ _ (handedOut (Value.ref D)) _ _ _
  rw [handedOut_of (v := Value.ref D) rfl]
  first
    | exact wpAny_pure (wpAny_pure k)
    | exact wpAny_pure k
    | exact wpAny_pure (wpAny_bind (wpAny_pure (wpAny_pure k)))
theorem kit_exc (C : L2.ExcC F D) : KitX F (.ref x) (.ref D) (fun h => InstAt h x ob D dd) where
  ty := fun _ _ _ I => I.type
  it := fun _ _ X _ => by
    obtain ⟨cd, hc, _⟩ := any_some C.hd
    unfold clsIn at hc
    split at hc
    · rename_i a1 a2 a3 a4 hob
      intro A1 Q1 E1 s1 k1 q1
      unfold isType
      unfold loadHead
      exact wpAny_bind (wpAny_loadPart (k1 _ _ (X _ _ hob)) (wpAny_pure q1))
    · cases hc
  ne := fun h tp b1 b2 b3 b4 X htp => by
    obtain ⟨cd, hc, _⟩ := any_some C.hd
    refine Bool.eq_false_iff.mpr fun q => ?_
    have e := Value.ref.inj (beq_iff_eq.mp q)
    subst e
    unfold clsIn at hc
    split at hc
    · rename_i a1 a2 a3 a4 hob
      cases (X _ _ hob).symm.trans htp
    · cases hc
  ca := fun X I k => cls_of_exc C X I k
end
end Dl
namespace Dl
open PySem PySem.Spec PyProof.Rows L2
/-- isinstance(e, c), e the exception at a, with its own dict -/
theorem call_isD {X : Cx} {a D : Addr} {oe : Obj} {cls : Value} {d : Option Addr} {pn : List (Addr × Obj)} (C : ExcC X.K D) (hz : Zc cls d oe) (hf : ∃ vs, oe.data = .fields vs) :
    CallR (X.suite a ((a, oe) :: pn)) (.builtin "isinstance") (fun vs H Q => ∃ (c : V) (cv : Value) (b : Bool) (dd : Addr) (xs : List (Str × V)), vs = [.ref a, c] ∧ cls = .ref D ∧ d = some dd ∧ H dd = some (.xd xs) ∧ (∀ u, RelV c u → u = cv) ∧ PySem.W.kitOne X.K (.ref D) cv = some b ∧ Q (.bl b) H) := by
  intro pins s σ H vs us Q I r h
  obtain ⟨c, cv, b, dd, xs, rfl, rfl, rfl, hd, hcv, e, q⟩ := h
  obtain ⟨u1, u2, rfl, r1, r2⟩ := vals2 r
  cases r1
  have ec := hcv _ r2
  subst ec
  obtain ⟨hget, _⟩ := I.pin (a, oe) (List.mem_append.mpr (.inl List.mem_cons_self))
  have hx : ObjOk X.prog X.w H s.heap dd (.xd xs) := I.hok dd _ hd
  obtain ⟨mA, hns, _⟩ := hx
  obtain ⟨od, ho, _⟩ := lookIn_ns hns
  have J : PySem.W.InstAt s.heap a oe D (some od) := by
    refine ⟨hget, hz.1, ?_, by rw [hz.2]; exact ho⟩
    obtain ⟨w1, hw⟩ := hf
    unfold PySem.W.notCls
    rw [hw] <;> rfl
  exact PySem.W.kia_one (kit_exc C) I.kIn J e (fun z => nomatch z) fun tk => ⟨.bl b, H, I.kept (t' := tk) fun _ _ z => z, rfl, q⟩
end Dl

/-! ## Defs that raise an error with a number in it; sizes of what repr shows; a list of one's own that is read from now on -/
namespace Dl
open PySem PySem.Spec PyProof.Rows L2

def spX (K : PySem.W.Frag) (C : Addr) (n : Nat) (Pre : List PyData → Prop) (g : List PyData → Option PyData) (gv : List PyData → Int) : Sp := fun vs H Q E =>
  ∃ D ds, Ok Fx.non D H ∧ DqA K D vs ds ∧ ds.length = n ∧ Pre ds ∧ (∀ v D' H' d, Step Fx.non D H D' H' → Dq K D' v d → g ds = some d → Q v H') ∧
    ∀ D' H' dd, Step Fx.non D H D' H' → H' dd = none → g ds = none → E (.ref C) (some dd) (upd H' dd (.xd [(("given" : Str), .int (gv ds))]))
section
variable {P : Program} {w : World} {K : PySem.W.Frag} {mg : Str → Option Value} {base : Heap} {x qual : Str} {st : Stmt} {f : Addr} {fd : FuncData} {N ps : List Str} {k : Nat} {C : Addr} {Pre : List PyData → Prop} {g : List PyData → Option PyData} {gv : List PyData → Int}
theorem ok_X (F : Fun K x qual st f fd) (S : FnScope N ps (defScope st)) (hb : ∀ (cdv : Value) (A : Around) (outer : List PySem.Env) (s : Shared) (H : Hp) (E : XK),
      Room k (A.deeper (envOfC qual (defScope st) s.heap.objs.size f cdv)) → ∀ ds, ds.length = ps.length → Pre ds →
      ∃ t, PSs (cxOf (L2.CX P w) P w K mg base N qual (defScope st) f cdv A outer s H E) (defBody st) t ∧
        StG K Fx.non (fun H => ∀ dd, H dd = none → E (.ref C) (some dd) (upd H dd (.xd [(("given" : Str), .int (gv ds))]))) t (ins N ds) { nx := fun _ => g ds = some .none, rt := fun d => g ds = some d, xr := g ds = none }) :
    FnOk P w K mg base (L2.CX P w) (k + 1) f fd ps (spX K C ps.length Pre g gv) := by
  refine F.okX S (fun vs H Q E h => ?_) (fun cdv A outer s H vs Q E hr h => ?_)
  · obtain ⟨D, ds, _, q, hl, _⟩ := h
    rw [q.len]
    exact hl
  · obtain ⟨D, ds, o, q, hl, p, k, x⟩ := h
    obtain ⟨t, ht, hg⟩ := hb cdv A outer s H E hr ds hl p
    refine ⟨t, ht, hg.run (env_start o q ?_) k fun D' H' s z dd hd => x D' H' dd s hd z⟩
    have hp : ps.length ≤ N.length := by
      have := congrArg List.length S.pre
      rw [List.length_take] at this
      omega
    omega
end
section
variable {K : PySem.W.Frag} {W : Fx} {EX : Hp → Prop} {ρ : List Sk} {P P1 P2 : PyData → Prop} {te ta tb : TE} {ds : List PyData} {tr : TS} {O : Out} {PA : List PyData → Prop} {C : Addr} {n : Nat} {Pre : List PyData → Prop} {g : List PyData → Option PyData} {gv : List PyData → Int}
theorem ev_callXN {ta : TA} {E : XK} {d : PyData} (h : EvA K W ta ρ (· = ds)) (hl : ds.length = n) (hp : Pre ds) (hq : g ds = some d) : EvD K W (tCall (spX K C n Pre g gv) [] E ta) ρ d := fun D0 H0 D H σ e Q q =>
  h D0 H0 D H σ e _ fun vs D1 H1 ds s1 q1 p1 => by
    subst p1
    have o1 := s1.ok e.ok
    rw [List.append_nil]
    refine ⟨D1, _, o1.non, q1, hl, hp, fun v D' H' d' s2 q2 p2 => ?_, fun D' H' dd s2 _ p2 => ?_⟩
    · rw [hq] at p2
      cases p2
      exact q v D' H' d (s1.trans e.ok (.lift o1 s2)) q2 rfl
    · rw [hq] at p2
      cases p2
theorem st_raiseX {E : XK} {i : Int} (h : EvD K W te ρ (.int i)) (hx : O.xr) : StG K W (fun H => ∀ dd, H dd = none → E (.ref C) (some dd) (upd H dd (.xd [(("given" : Str), .int i)]))) (tSeq (tRaiseLow C (fun cls d _ H => E cls d H) (tCons te tNil)) tr) ρ O := fun D0 H0 D H σ Dn e _ _ _ _ kx =>
  h D0 H0 D H σ e _ fun v D1 H1 d s1 q1 p1 => by
    subst p1
    cases q1
    exact ⟨_, rfl, fun dd hd => kx D1 H1 (e.st.trans e.ok0 s1) hx dd hd⟩

/-! a list of one's own is read from now on -/
theorem st_freeze {ts : TS} {i : Nat} (hρ : ρ[i]? = some (.own ds)) (k : StG K W EX ts (ρ.set i (.dat (.list ds))) O) : StG K W EX ts ρ O := fun D0 H0 D H σ Dn e kn kb kc kr kx => by
  obtain ⟨o, q1, l, xs, q2, h3, h4, h5, h6, h7⟩ := e.slot i _ hρ
  subst q2
  have hi : i < ρ.length := (List.getElem?_eq_some_iff.mp hρ).1
  have gr : Same D (upd D l (.lst xs)) := same_new h3
  have e2 : Env K W D0 H0 (upd D l (.lst xs)) H σ (ρ.set i (.dat (.list ds))) := by
    refine ⟨e.ok0, e.st.told h4 h3 h6, fun j sk hj => ?_, fun a b m sh th es fs h1 h2 h3' h4' => ?_⟩
    · by_cases hij : i = j
      · subst hij
        rw [List.getElem?_set_self hi] at hj
        cases hj
        exact ⟨_, q1, .ref l, rfl, .lst (Or.inl (Or.inl upd_same)) (h7.up gr)⟩
      · rw [List.getElem?_set_ne hij] at hj
        obtain ⟨o, p1, p2⟩ := e.slot j sk hj
        refine ⟨o, p1, ?_⟩
        cases sk with
        | any => trivial
        | rt => exact p2
        | dat d =>
          obtain ⟨v, z, q⟩ := p2
          exact ⟨v, z, q.up gr⟩
        | ob sh es =>
          obtain ⟨m, ys, e1, r1, r2, r3, r4, r5⟩ := p2
          subst e1
          have hm : m ≠ l := fun z => hij (e.dist i j l _ sh ds es hρ hj q1 (by rw [← z]; exact p1))
          exact ⟨m, ys, rfl, by rw [upd_ne hm]; exact r1, r2, r3, r4, r5.up gr⟩
        | dd f =>
          obtain ⟨a, kvs, z, r1, r2⟩ := p2
          exact ⟨a, kvs, z, same_rd gr r1, fun k => (r2 k).imp id fun ⟨v, d, c1, c2, c3⟩ => ⟨v, d, c1, c2, c3.up gr⟩⟩
    · have own_of : ∀ (j : Nat) sh fs, (ρ.set i (.dat (.list ds)))[j]? = some (.ob sh fs) → ρ[j]? = some (.ob sh fs) := fun j sh fs h => by
        by_cases hij : i = j
        · subst hij
          rw [List.getElem?_set_self hi] at h
          cases h
        · rw [List.getElem?_set_ne hij] at h
          exact h
      exact e.dist a b m sh th es fs (own_of a _ _ h1) (own_of b _ _ h2) h3' h4'
  exact k D0 H0 _ H σ Dn e2 (fun a b c x g2 => kn a b c x (gr.trans g2)) (fun a b c x g2 => kb a b c x (gr.trans g2)) (fun a b c x g2 => kc a b c x (gr.trans g2)) kr kx
end

/-! ### what repr shows -/
structure Sm (w p : Nat) (d : PyData) : Prop where
  a : d.showable = true
  b : d.hasDict = false
  c : d.depth ≤ p
  e : d.shown.length ≤ w
theorem Sm.le {w w' p p' : Nat} {d : PyData} (h : Sm w p d) (hw : w ≤ w') (hp : p ≤ p') : Sm w' p' d := ⟨h.a, h.b, Nat.le_trans h.c hp, Nat.le_trans h.e hw⟩
theorem Sm.none : Sm 4 1 .none := ⟨by simp [PyData.showable], by simp [PyData.hasDict], by simp [PyData.depth], by rw [PyData.shown_none]; exact (by decide +kernel)⟩
theorem Sm.bool (b : Bool) : Sm 5 1 (.bool b) := ⟨by simp [PyData.showable], by simp [PyData.hasDict], by simp [PyData.depth], by rw [PyData.shown_bool]; cases b <;> exact (by decide +kernel)⟩
theorem Sm.int {i : Int} {k : Nat} (hk : 0 < k) (h : i.natAbs < 10 ^ k) (hs : k ≤ 70) : Sm (k + 1) 1 (.int i) := by
  have h2 : i.natAbs.log2 < 1920 := by
    by_cases h3 : i.natAbs = 0
    · rw [h3]; decide
    · refine (Nat.log2_lt h3).mpr (Nat.lt_of_lt_of_le h ?_)
      calc 10 ^ k ≤ 10 ^ 70 := Nat.pow_le_pow_right (by decide) hs
        _ ≤ 2 ^ 240 := by decide
        _ ≤ 2 ^ 1920 := Nat.pow_le_pow_right (by decide) (by decide)
  refine ⟨by simp only [PyData.showable]; exact decide_eq_true h2, by simp [PyData.hasDict], by simp [PyData.depth], ?_⟩
  rw [PyData.shown_int]
  have := PySem.int_text_length_le10 hk h
  rw [PyProof.Rows.ofString_len]
  exact this
theorem Sm.str {z : Str} {n : Nat} (hz : z.length ≤ n) (hc : ∀ c ∈ z.cps.toList, c < 16 ^ 8) : Sm (10 * n + 2) 1 (.str z) := by
  refine ⟨by simp [PyData.showable], by simp [PyData.hasDict], by simp [PyData.depth], ?_⟩
  rw [PyData.shown_str]
  have := PySem.StrLaws.reprText_len z hc
  omega
theorem join_le {w : Nat} : ∀ (ts : List Str), (∀ t ∈ ts, t.length ≤ w) → (Str.join ", " ts).length ≤ ts.length * (w + 2)
  | [], _ => Nat.zero_le _
  | [t], h => by
    show t.length ≤ _
    have := h t List.mem_cons_self
    simp
    omega
  | t :: u :: r, h => by
    have e : Str.join ", " (t :: u :: r) = t ++ Str.ofString ", " ++ Str.join ", " (u :: r) := rfl
    have h1 := h t List.mem_cons_self
    have h2 := join_le (u :: r) fun x hx => h x (List.mem_cons_of_mem _ hx)
    have h3 : (Str.ofString ", ").length = 2 := by decide +kernel
    rw [e, Str.length_append, Str.length_append, h3, List.length_cons, Nat.succ_mul]
    omega
theorem shownAll_map : ∀ ds : List PyData, PyData.shownAll ds = ds.map PyData.shown
  | [] => by rw [PyData.shownAll_nil]; rfl
  | d :: ds => by rw [PyData.shownAll_cons, shownAll_map ds]; rfl
theorem all_sm {w p : Nat} : ∀ (ds : List PyData), (∀ d ∈ ds, Sm w p d) → PyData.showableAll ds = true ∧ PyData.hasDictAll ds = false ∧ PyData.depthAll ds ≤ p
  | [], _ => by simp [PyData.showableAll, PyData.hasDictAll, PyData.depthAll]
  | d :: ds, h => by
    obtain ⟨h1, h2, h3⟩ := all_sm ds fun x hx => h x (List.mem_cons_of_mem _ hx)
    have h4 := h d List.mem_cons_self
    refine ⟨by simp [PyData.showableAll, h4.a, h1], by simp [PyData.hasDictAll, h4.b, h2], ?_⟩
    have := h4.c
    simp only [PyData.depthAll]
    omega
theorem Sm.list {w p n : Nat} {ds : List PyData} (h : ∀ d ∈ ds, Sm w p d) (hn : ds.length ≤ n) : Sm (4 + n * (w + 2)) (p + 1) (.list ds) := by
  obtain ⟨h1, h2, h3⟩ := all_sm ds h
  refine ⟨by simp only [PyData.showable]; exact h1, by simp only [PyData.hasDict]; exact h2, by simp only [PyData.depth]; omega, ?_⟩
  rw [PyData.shown_list, shownAll_map]
  have h4 := join_le (w := w) (ds.map PyData.shown) fun t ht => by
    obtain ⟨d, hd, e⟩ := List.mem_map.mp ht
    rw [← e]
    exact (h d hd).e
  have h5 : (Str.ofString "[").length = 1 := by decide +kernel
  have h6 : (Str.ofString "]").length = 1 := by decide +kernel
  rw [Str.length_append, Str.length_append, h5, h6]
  rw [List.length_map] at h4
  have h7 : ds.length * (w + 2) ≤ n * (w + 2) := Nat.mul_le_mul_right _ hn
  omega
theorem Sm.tuple {w p n : Nat} {ds : List PyData} (h : ∀ d ∈ ds, Sm w p d) (hn : ds.length ≤ n) : Sm (4 + n * (w + 2)) (p + 1) (.tuple ds) := by
  obtain ⟨h1, h2, h3⟩ := all_sm ds h
  refine ⟨by simp only [PyData.showable]; exact h1, by simp only [PyData.hasDict]; exact h2, by simp only [PyData.depth]; omega, ?_⟩
  rw [PyData.shown_tuple, shownAll_map]
  have h4 := join_le (w := w) (ds.map PyData.shown) fun t ht => by
    obtain ⟨d, hd, e⟩ := List.mem_map.mp ht
    rw [← e]
    exact (h d hd).e
  have h5 : (Str.ofString "(").length = 1 := by decide +kernel
  have h6 : (Str.ofString (if (ds.length == 1) = true then ",)" else ")")).length ≤ 2 := by
    split
    · exact (by decide +kernel)
    · exact (by decide +kernel)
  rw [Str.length_append, Str.length_append, h5]
  rw [List.length_map] at h4
  have h7 : ds.length * (w + 2) ≤ n * (w + 2) := Nat.mul_le_mul_right _ hn
  omega
theorem rc_reprS {K : PySem.W.Frag} {W : Fx} {d : PyData} {w p : Nat} (h : Sm w p d) (hp : p ≤ 60) (hw : w ≤ 16777216) : RC K W (rRepr K) [d] (· = .str d.shown) :=
  rc_repr h.a h.b (Nat.le_trans h.c hp) (by rw [sizeLine_eq]; exact Nat.le_trans h.e hw)

section
variable {K : PySem.W.Frag} {W : Fx} {ρ : List Sk} {te : TE} {ds : List PyData}
/-- range(n), n not told -/
theorem ei_rngN {lo hi : Int} (h : EvN K W te ρ (isI lo hi)) (h0 : 0 ≤ lo) (h1 : hi ≤ 100000) : EvI K W (iRng1 (tCons te tNil)) ρ (fun ds => ∃ n : Nat, ds = ups 0 n ∧ lo ≤ (n : Int) ∧ (n : Int) < hi) := fun D0 H0 D H σ e R k =>
  h D0 H0 D H σ e _ fun v D1 H1 d s1 q1 ⟨i, e1, h2, h3⟩ => by
    subst e1
    cases q1
    refine ⟨i, rfl, by omega, by omega, k _ D1 H1 _ s1 .rng ⟨i.toNat, rfl, by omega, by omega⟩⟩
end

section
variable {K : PySem.W.Frag} {W : Fx} {ρ : List Sk} {P : PyData → Prop}
theorem ev_kwN2 {Pre : List PyData → Prop} {Post : List PyData → PyData → Prop} {ta : TA} {E : L2.St → XK} {d1 d2 : PyData} (h : EvA K W ta ρ (· = [d1, d2])) (hp : Pre [d2, d1]) (hq : ∀ d, Post [d2, d1] d → P d) :
    EvN K W (tKw 2 (fun {α} => g2) (spN K 2 Pre Post) E ta) ρ P := fun D0 H0 D H σ e Q q =>
  h D0 H0 D H σ e _ fun vs D1 H1 ds s1 q1 p1 => by
    subst p1
    have o1 := s1.ok e.ok
    cases q1 with
    | cons a1 q1 =>
      cases q1 with
      | cons a2 q1 =>
        cases q1
        refine ⟨rfl, D1, [d2, d1], o1.non, .cons a2 (.cons a1 .nil), rfl, hp, fun v D' H' d s2 q2 p2 => ?_⟩
        exact q v D' H' d (s1.trans e.ok (.lift o1 s2)) q2 (hq d p2)
end
end Dl

/-! ## set(a list of ints), in the shape that sorted asks for -/
namespace Dl
open PySem PySem.Spec PyProof.Rows L2

/-- what the first i values leave in the set at S -/
def Heaped (w : World) (h : Heap) (S : Addr) (val : Nat → Int) (i : Nat) : Prop := ∃ (f : Int → Bool) (c : Nat), SetR w h S f c ∧ (∀ k, f k = true ↔ ∃ j, j < i ∧ val j = k) ∧ c ≤ i

section
variable {Pg : Program} {w : World} {A : Around} {R : Result → Shared → Prop} {I : Addr} {fp wr : List Addr} {G : Array GenState → Array GenState → Prop} {n : Nat} {Pv : Nat → Value → Prop} {St : Nat → Shared → Prop}
theorem heap_loop (W : WalksS Pg w A.in1 I fp wr G n Pv St) (S : Addr) (out : S ∉ fp) (val : Nat → Int) (isV : ∀ i v, Pv i v → ∃ t, v = .int (val i) t) (room : n + 1 < scanBound) :
    ∀ (m i : Nat) (s : Shared), n - i = m → i ≤ n → St i s → Heaped w s.heap S val i → (∀ s', Moved (S :: wr) G s s' → Heaped w s'.heap S val n → R (.ok (.ret .none)) s') →
      codeAny (model Pg w) A (.builtin "set.update.loop" ⟨[.ref S, .ref I], []⟩) R s := by
  have nw : S ∉ wr := fun h => out (W.sub _ h)
  have up : ∀ b ∈ wr, b ∈ S :: wr := fun b hb => List.mem_cons_of_mem _ hb
  have moved : ∀ {s s' : Shared} {i : Nat}, Moved wr G s s' → Heaped w s.heap S val i → Heaped w s'.heap S val i := fun hm ⟨f, c, r, q⟩ => ⟨f, c, r.at fun o e => hm.heap S o nw e, q⟩
  intro m
  induction m with
  | zero =>
    intro i s hm hi st hS k
    obtain rfl : i = n := by omega
    refine codeAny_builtin F.entry_set_update_loop ?_
    rw [Around.under_plainId F.plain_set_update_loop _]
    show wpAny _ A.in1 (pyNext (Value.ref I) >>= _) _ _ s
    refine wpAny_bind (W.done s _ _ st fun s' mv => ?_)
    show wpAny _ A.in1 (ret Value.none) _ _ s'
    exact wpAny_pure (k s' (mv.mono up) (moved mv hS))
  | succ m ih =>
    intro i s hm hi st hS k
    have lt : i < n := by omega
    refine codeAny_builtin F.entry_set_update_loop ?_
    rw [Around.under_plainId F.plain_set_update_loop _]
    show wpAny _ A.in1 (pyNext (Value.ref I) >>= _) _ _ s
    refine wpAny_bind (W.item i s _ _ lt st fun v s' hv st' mv => ?_)
    obtain ⟨t, rfl⟩ := isV i v hv
    obtain ⟨f, c, r, hf, hc⟩ := moved mv hS
    show wpAny _ A.in1 (holding [Value.int (val i) t] (setAdd S (.int (val i) t)) >>= _) _ _ s'
    refine wpAny_bind (wpAny_holding ?_)
    unfold setAdd
    refine wpAny_holding (wpAny_bind ((intKind Pg w).pyHash (k := val i) (intKind_is Pg w (val i) t) ?_))
    refine setR_add_hashed (s := { s' with toks := s'.toks + 1 }) r (by omega) fun h2 sb r2 => ?_
    have here : Heaped w h2 S val (i + 1) := by
      refine ⟨_, _, r2, fun k => ?_, ?_⟩
      · rw [Bool.or_eq_true, decide_eq_true_eq, hf k]
        constructor
        · rintro (⟨j, hj, e⟩ | e)
          · exact ⟨j, by omega, e⟩
          · exact ⟨i, by omega, e.symm⟩
        · rintro ⟨j, hj, e⟩
          by_cases hji : j = i
          · subst hji
            exact Or.inr e.symm
          · exact Or.inl ⟨j, by omega, e⟩
      · split <;> omega
    have keepFp : ∀ b ∈ fp, ∀ o, s'.heap.get? b = some o → h2.get? b = some o := fun b hb o e => by
      rw [sb.2 b (fun z => out (by rw [← z]; exact hb))]
      exact e
    refine wpAny_pure ⟨plainId_quiet F.plain_set_update_loop _, ih (i + 1) _ (by omega) lt (W.frame _ s' _ _ st' (Nat.le_succ _) keepFp) here fun s'' mv2 hS2 => ?_⟩
    refine k s'' (Moved.trans W.gtrans ((mv.mono up).then_heap (Nat.le_succ _) fun b o hb e => ?_) mv2) hS2
    rw [sb.2 b (fun z => hb (by rw [z]; exact List.mem_cons_self))]
    exact e
end

section
variable {Pg : Program} {w : World} {A : Around} {E : Value → Shared → Prop} {s : Shared}
theorem led_new1 (v : Value) {Q1 : Value → Shared → Prop}
    (k : Q1 (.ref s.heap.objs.size) { s with heap := s.heap.push { cls := .type "set", dict := none, data := .set #[] 0 (.fresh 0 0 (!w.params.followText "set-order")) } }) :
    codeAny (model Pg w) A (.call (.builtin "set.__new__") ⟨[.type "set", v], []⟩) (wants Q1 E) s := by
  refine codeAny_of_tree ?_
  show wpAny _ A.in1 (do checkBuiltinCall "set.__new__" ⟨[Value.type "set", v], []⟩; again (.builtin "set.__new__" ⟨[Value.type "set", v], []⟩)) _ _ s
  refine wpAny_bind (wpAny_of_eq (F.newCall_set_1 v) (wpAny_pure ⟨plainId_quiet F.plain_set_new _, codeAny_builtin F.entry_set_new ?_⟩))
  rw [Around.under_plainId F.plain_set_new _]
  unfold Builtin.«set.__new__»
  unfold Builtin.Frozenset.newClass
  have sub0 := sub_set_self
  obtain ⟨hp, gs, dr, tk, os⟩ := s
  dsimp only
  wp_walk
  refine wpAny_askSetting (wpAny_pure ?_)
  dsimp only
  simp only [newObj]
  exact wpAny_bind (wpAny_alloc (wpAny_pure (wpAny_pure k)))

set_option maxHeartbeats 3200000 in
theorem call_set_ints {l : Addr} {items : Array Value} {ns : List Int} {Q : Value → Shared → Prop} (hh : A.handled = none) (hl : s.heap.IsList l items) (hi : PyProof.Rows.IntsAre items.toList ns) (room : items.size + 1 < scanBound)
    (k : ∀ (g : Heap) (tk : Nat), Heaped w g s.heap.objs.size (fun i => ns.getD i 0) items.size → (∀ b o, b < s.heap.objs.size → s.heap.get? b = some o → g.get? b = some o) → Q (.ref s.heap.objs.size) { s with heap := g, toks := tk }) :
    wpAny (model Pg w) A (call (.type "set") [.ref l]) Q E s := by
  obtain ⟨c, tl, hmro⟩ := F.called_set.mro
  have m1 := F.called_set.made
  have m2 := F.called_set.sub
  refine wpAny_call (codeAny_of_tree ?_)
  show wpAny _ _ (callAny (Value.type "set") _) _ _ _
  refine wpAny_pure ⟨Code.quiet_builtin _ (by decide +kernel), codeAny_builtin F.entry_type_call ?_⟩
  rw [Around.under_plain (weight_type_call_type "set" [Value.ref l] []) rfl]
  have m3 := F.called_set.notType
  have m4 := F.called_set.canCreate
  have m5 := F.typeCall_set_1 (Value.ref l)
  repeat (any_goals (first | assumption | wp_step))
  generalize hfr : (s.heap.push { cls := .type "set", dict := none, data := .set #[] 0 (.fresh 0 0 (!w.params.followText "set-order")) }) = hp0
  have fresh0 : SetR w hp0 s.heap.objs.size (fun _ => false) 0 := by
    rw [← hfr]
    exact setR_fresh w
  have get0 : hp0.get? s.heap.objs.size = some { cls := .type "set", dict := none, data := .set #[] 0 (.fresh 0 0 (!w.params.followText "set-order")) } := by
    rw [← hfr]
    exact Heap.get?_push_size _ rfl
  have old0 : ∀ b o, s.heap.get? b = some o → hp0.get? b = some o := fun b o e => by
    rw [← hfr]
    exact Heap.get?_push_of_some _ e
  have size0 : hp0.objs.size = s.heap.objs.size + 1 := by
    rw [← hfr]
    exact Heap.size_push ..
  refine codeAny_mono (led_new1 (Value.ref l) (E := E) (Q1 := fun obj s1 => obj = .ref s.heap.objs.size ∧ s1 = { s with heap := hp0 }) ⟨rfl, by rw [hfr]⟩) fun r s1 hr => ?_
  cases r with
  | error e => exact hr
  | ok fl =>
    cases fl with
    | ret obj =>
      obtain ⟨rfl, rfl⟩ := hr
      have hT : Shared.TypeIs { s with heap := hp0 } (.ref s.heap.objs.size) "set" := ⟨_, get0, rfl⟩
      have i1 := F.called_set.init.lookup
      have i2 := F.called_set.init.bind (Value.ref s.heap.objs.size)
      repeat (any_goals (first | assumption | wp_step))
      refine codeAny_mono (codeAny_call_builtin (R := wants (fun r s2 => r = .none ∧ ∃ g tk, s2 = { s with heap := g, toks := tk } ∧ Heaped w g s.heap.objs.size (fun i => ns.getD i 0) items.size ∧
          (∀ b o, b < s.heap.objs.size → s.heap.get? b = some o → g.get? b = some o)) E) F.called_set.init.plain F.entry_set_init (check_set_init_1 hT ?_)) fun r2 s2 hr2 => ?_
      · obtain ⟨ol, hol, hcl, nl, hdl⟩ := hl
        obtain ⟨ocls, odict, odata, oslots⟩ := ol
        simp only at hcl hdl
        subst hcl
        subst hdl
        have hol' : hp0.get? l = some { cls := .type "list", dict := odict, data := .seq items nl, slots := oslots } := old0 _ _ hol
        have q1 := F.sub_list_set
        have q2 := F.sub_list_frozenset
        have q3 : (Value.type "list" == Value.type "dict") = false := by decide
        have isL : hp0.IsList l items := ⟨_, hol', rfl, nl, rfl⟩
        unfold Builtin.«set.__init__»
        unfold noKeywords
        unfold Builtin.Frozenset.updateFrom
        generalize hPI : pyIter = PI
        wp_walk
        subst hPI
        refine wpAny_pyIter_list isL (wpAny_bind (wpAny_runValue ?_))
        have lS : l < s.heap.objs.size := Heap.lt_size hol
        have h3 : A.in1.in1.in1.handled = none := by simp [hh]
        have apart : l ≠ hp0.objs.size := by
          rw [size0]
          exact Nat.ne_of_lt (Nat.lt_succ_of_lt lS)
        have outS : s.heap.objs.size ∉ [hp0.objs.size, l] := by
          rw [size0]
          simp only [List.mem_cons, List.not_mem_nil, or_false, not_or]
          exact ⟨Nat.ne_of_lt (Nat.lt_succ_self _), Nat.ne_of_gt lS⟩
        have isV : ∀ (i : Nat) (v : Value), items[i]? = some v → ∃ t, v = .int ((fun i => ns.getD i 0) i) t := fun i v hv => IntsAre.int_at hi i v (by rw [Array.getElem?_toList]; exact hv)
        refine heap_loop ((PySem.Walks.list h3 _ l apart items).toS) s.heap.objs.size outS (fun i => ns.getD i 0) isV room (items.size - 0) 0 _ (by omega) (Nat.zero_le _) ⟨⟨_, Heap.get?_push_size _ rfl, rfl, rfl⟩, isL.push _⟩ ?_ ?_
        · refine ⟨fun _ => false, 0, fresh0.at fun o e => Heap.get?_push_of_some _ e, fun k => ?_, Nat.le_refl 0⟩
          constructor
          · intro z
            cases z
          · rintro ⟨j, hj, _⟩
            omega
        · intro s' hm hS'
          obtain ⟨g, gs, dr, tk, os⟩ := s'
          have e1 : gs = s.gens := hm.gens
          have e2 : dr = s.drawn := hm.drawn
          have e3 : os = s.os := hm.os
          subst e1
          subst e2
          subst e3
          show wpAny _ _ _ _ _ _
          refine wpAny_pure ?_
          show wpAny _ _ (ret Value.none) _ _ _
          refine wpAny_pure ⟨rfl, g, tk, rfl, hS', fun b o hb e => ?_⟩
          refine hm.heap b o ?_ (Heap.get?_push_of_some _ (old0 b o e))
          simp only [List.mem_cons, List.not_mem_nil, or_false, not_or]
          exact ⟨Nat.ne_of_lt hb, by rw [size0]; exact Nat.ne_of_lt (Nat.lt_succ_of_lt hb)⟩
      · cases r2 with
        | error e => exact hr2
        | ok fl2 =>
          cases fl2 with
          | ret r =>
            obtain ⟨rfl, g, tk, rfl, hS', hk'⟩ := hr2
            repeat (any_goals (first | assumption | wp_step))
            exact k _ _ hS' hk'
          | _ => exact hr2.elim
    | _ => exact hr.elim
end

/-- set(xs), xs a list of ints -/
def rSetI (K : PySem.W.Frag) (w : World) : List V → Hp → VK → Prop := fun xs H Q => ∃ (l : Addr) (ns : List Int), xs = [.ref l] ∧ SqL K H l (ns.map V.int) ∧ ns.length ≤ 4000 ∧
  ∀ (p : Addr) (f : Int → Bool) (c : Nat), H p = none → (∀ k, f k = true ↔ k ∈ ns) → c ≤ ns.length → Q (.ref p) (upd H p (SetO w p f c))
theorem call_setI {X : Cx} (hc : X.calm = true) : CallR X (.type "set") (rSetI X.K X.w) := by
  intro pins s σ H xs us Q I r h
  obtain ⟨l, ns, rfl, hq, hz, q⟩ := h
  obtain ⟨u, rfl, ru⟩ := vals1 r
  cases ru
  obtain ⟨its, rv, pl, _⟩ := I.list hq
  have len : its.toArray.size = ns.length := by rw [List.size_toArray, ← rv.length, List.length_map]
  refine call_set_ints (I.ok.hd hc) pl.isList (ns := ns) (by simpa using intsAre_of rv) (by rw [len]; unfold scanBound; omega) fun g tk hS hk => ?_
  obtain ⟨f, c, rS, hf, hcl⟩ := hS
  have J : Inv X pins σ (upd H s.heap.objs.size (SetO X.w s.heap.objs.size f c)) { s with heap := g, toks := tk } := I.laid (t' := tk) (fun b o e => hk b o (Heap.lt_size e) e) (Nat.le_refl _) (setO_new rS)
  refine ⟨.ref s.heap.objs.size, _, J, rfl, q _ f c (I.hok.fresh (Nat.le_refl _)) (fun k => ?_) (by rw [← len]; exact hcl)⟩
  rw [hf k, len]
  constructor
  · rintro ⟨j, hj, e⟩
    rw [← e]
    show ns.getD j 0 ∈ ns
    rw [List.getD_eq_getElem?_getD, List.getElem?_eq_getElem hj]
    exact List.getElem_mem hj
  · intro hk
    obtain ⟨j, hj, e⟩ := List.getElem_of_mem hk
    exact ⟨j, hj, by show ns.getD j 0 = k; rw [List.getD_eq_getElem?_getD, List.getElem?_eq_getElem hj]; exact e⟩
end Dl

/-! ## sum(lists, []) -/
namespace Dl
open PySem PySem.Spec PyProof.Rows L2

theorem sum_args2 (a b : Value) : argsOk "sum" ⟨[a, b], []⟩ := by
  unfold argsOk
  kernel_rfl
theorem lst_str : isSubtype (.type "list") (.type "str") = pure false := by
  rw [isSubtype_type]
  kernel_rfl
theorem lst_bytes : isSubtype (.type "list") (.type "bytes") = pure false := by
  rw [isSubtype_type]
  kernel_rfl
theorem lst_bytearray : isSubtype (.type "list") (.type "bytearray") = pure false := by
  rw [isSubtype_type]
  kernel_rfl

/-- the lists ahead of the i-th, one behind the other -/
def ahead {α : Type} (xs : List (List α)) (i : Nat) : List α := (xs.take i).flatten
theorem ahead_succ {α : Type} {xs : List (List α)} {i : Nat} {x : List α} (h : xs[i]? = some x) : ahead xs (i + 1) = ahead xs i ++ x := by
  unfold ahead
  rw [List.take_add_one, h]
  simp
theorem ahead_all {α : Type} (xs : List (List α)) : ahead xs xs.length = xs.flatten := by
  unfold ahead
  rw [List.take_length]
theorem ahead_le {α : Type} (xs : List (List α)) (i : Nat) : (ahead xs i).length ≤ xs.flatten.length := by
  have := congrArg List.flatten (List.take_append_drop i xs)
  rw [List.flatten_append] at this
  have h2 := congrArg List.length this
  rw [List.length_append] at h2
  unfold ahead
  omega
/-- a list as the machine lays it -/
def LstAt (h : Heap) (a : Addr) (xs : List Value) : Prop := ∃ o, h.get? a = some o ∧ o.cls = .type "list" ∧ ∃ n, o.data = .seq xs.toArray n
theorem LstAt.up {h h' : Heap} {a : Addr} {xs : List Value} (l : LstAt h a xs) (k : ∀ o, h.get? a = some o → h'.get? a = some o) : LstAt h' a xs := by
  obtain ⟨o, e, r⟩ := l
  exact ⟨o, k o e, r⟩
/-- .. as a new list lies -/
def LstEx (h : Heap) (a : Addr) (xs : List Value) : Prop := ∃ n, h.get? a = some { cls := .type "list", dict := none, data := .seq xs.toArray n, slots := #[] }
theorem LstEx.at {h : Heap} {a : Addr} {xs : List Value} (l : LstEx h a xs) : LstAt h a xs := by
  obtain ⟨n, e⟩ := l
  exact ⟨_, e, rfl, n, rfl⟩
theorem add_at {pr : Program} {w : World} {A : Around} {s : Shared} {E : Value → Shared → Prop} {l b : Addr} {xs ys : List Value} {Q : Value → Shared → Prop} (hl : LstAt s.heap l xs) (hb : LstAt s.heap b ys) (hsz : xs.toArray.size + ys.toArray.size ≤ sizeLine)
    (h : Q (.ref s.heap.objs.size) { s with heap := s.heap.push { cls := .type "list", data := .seq (xs.toArray ++ ys.toArray) } }) : wpAny (model pr w) A (binaryOp .Add (.ref l) (.ref b)) Q E s := by
  obtain ⟨⟨cls, dd, data, sl⟩, ho, hc, n, hd⟩ := hl
  obtain ⟨⟨cls2, dd2, data2, sl2⟩, ho2, hc2, n2, hd2⟩ := hb
  simp only at hc hd hc2 hd2
  subst hc hd hc2 hd2
  exact concat_meets ⟨_, ho, rfl⟩ ⟨_, ho2, rfl⟩ noFill_list_add seq_list_add PySem.F.slot_list_add PySem.F.entry_list_add (PySem.F.args_list_add_2 _ _) (list_addW l b _ _ n n2 dd dd2 sl sl2 hsz) ⟨ho, ho2, h⟩
section
variable {Pg : Program} {w : World} {A : Around} {R : Result → Shared → Prop} {I : Addr} {fp wr : List Addr} {G : Array GenState → Array GenState → Prop} {Pv : Nat → Value → Prop} {St : Nat → Shared → Prop}
theorem sum_lists (as : List Addr) (xs : List (List Value)) (len : as.length = xs.length) (W : WalksS Pg w A.in1 I fp wr G as.length Pv St) (isV : ∀ i v, Pv i v → ∃ a, as[i]? = some a ∧ v = .ref a) (S : Addr) (out : S ∉ fp) (room : xs.flatten.length ≤ sizeLine)
    (N : Nat) (notW : ∀ a ∈ as, a ∉ wr ∧ a ≠ S) (hwr : ∀ b ∈ wr, b = I) (hNI : N ≤ I) (live : ∀ i s, St i s → I < s.heap.objs.size) :
    ∀ (m i : Nat) (s : Shared) (T : Addr) (c : Nat), as.length - i = m → i ≤ as.length → St i s → T ∉ wr → T ≠ S → (0 < i → N ≤ T ∧ LstEx s.heap T (ahead xs i)) → (∀ (j : Nat) a x, as[j]? = some a → xs[j]? = some x → LstAt s.heap a x) →
      LstAt s.heap T (ahead xs i) → s.heap.get? S = some { cls := .type "list", dict := none, data := .seq #[.ref T] c, slots := #[] } →
      (∀ s' T', Moved (S :: wr) G s s' → (0 < as.length → N ≤ T' ∧ LstEx s'.heap T' xs.flatten) → R (.ok (.ret (.ref T'))) s') →
      codeAny (model Pg w) A (.builtin "sum.loop" ⟨[.ref I, .ref S, rawInt 2, rawInt 0], []⟩) R s := by
  have nw : S ∉ wr := fun h => out (W.sub _ h)
  have up : ∀ b ∈ wr, b ∈ S :: wr := fun b hb => List.mem_cons_of_mem _ hb
  intro m
  induction m with
  | zero =>
    intro i s T c hm hi st hTw hTS hT1 hls hT hSl k
    obtain rfl : i = as.length := by omega
    refine codeAny_builtin F.entry_sum_loop ?_
    rw [Around.under_plainId F.plain_sum_loop _]
    show wpAny _ A.in1 (seqItems? (Value.ref S) >>= _) _ _ s
    refine wpAny_bind (wpAny_seqItems hSl rfl ?_)
    show wpAny _ A.in1 (tryCatch (pyNext (Value.ref I)) _ >>= _) _ _ s
    refine wpAny_bind (wpAny_tryCatch (W.done s _ _ st fun s' mv => ?_))
    refine wpAny_pure (k s' T (mv.mono up) fun z => ⟨(hT1 z).1, ?_⟩)
    obtain ⟨n0, e⟩ := (hT1 z).2
    rw [← ahead_all xs, ← len]
    exact ⟨n0, mv.heap T _ hTw e⟩
  | succ m ih =>
    intro i s T c hm hi st hTw hTS hT1 hls hT hSl k
    have lt : i < as.length := by omega
    refine codeAny_builtin F.entry_sum_loop ?_
    rw [Around.under_plainId F.plain_sum_loop _]
    show wpAny _ A.in1 (seqItems? (Value.ref S) >>= _) _ _ s
    refine wpAny_bind (wpAny_seqItems hSl rfl ?_)
    show wpAny _ A.in1 (tryCatch (pyNext (Value.ref I)) _ >>= _) _ _ s
    refine wpAny_bind (wpAny_tryCatch (W.item i s _ _ lt st fun v s' hv st' mv => ?_))
    obtain ⟨a, ha, rfl⟩ := isV i v hv
    obtain ⟨x, hx⟩ : ∃ x, xs[i]? = some x := ⟨xs[i]'(by omega), List.getElem?_eq_getElem (by omega)⟩
    have ea := hls i a x ha hx
    obtain ⟨haw, haS⟩ := notW a (List.mem_of_getElem? ha)
    have ea' : LstAt s'.heap a x := ea.up fun o z => mv.heap a o haw z
    have eT' : LstAt s'.heap T (ahead xs i) := hT.up fun o z => mv.heap T o hTw z
    have eS' := mv.heap S _ nw hSl
    have hsz : (ahead xs i).toArray.size + x.toArray.size ≤ sizeLine := by
      have h1 := ahead_le xs (i + 1)
      rw [ahead_succ hx, List.length_append] at h1
      simp only [List.size_toArray]
      omega
    show wpAny _ A.in1 ((holding [Value.ref a] (binaryOp .Add (.ref T) (.ref a))).attempt >>= _) _ _ s'
    refine wpAny_bind (wpAny_attempt (wpAny_holding (add_at eT' ea' hsz ?_)))
    generalize hg : s'.heap.push { cls := .type "list", data := .seq ((ahead xs i).toArray ++ x.toArray) } = g
    have big : I < s'.heap.objs.size := live _ _ st'
    have bigS : S < s'.heap.objs.size := Heap.lt_size eS'
    have old : ∀ b o, s'.heap.get? b = some o → g.get? b = some o := fun b o e => by
      rw [← hg]
      exact Heap.get?_push_of_some _ e
    have new : g.get? s'.heap.objs.size = some { cls := .type "list", dict := none, data := .seq (ahead xs (i + 1)).toArray 0, slots := #[] } := by
      rw [← hg, ahead_succ hx]
      have : (ahead xs i ++ x).toArray = (ahead xs i).toArray ++ x.toArray := by simp
      rw [this]
      exact Heap.get?_push_size _ rfl
    have gsz : g.objs.size = s'.heap.objs.size + 1 := by
      rw [← hg]
      exact Heap.size_push ..
    have gS := old S _ eS'
    show wpAny _ A.in1 (updateSeq S (fun _ => #[Value.ref s'.heap.objs.size]) >>= _) _ _ _
    refine wpAny_bind (wpAny_updateSeq gS rfl ?_)
    have gS2 := Heap.get?_update_self (Obj.mapSeq fun _ => #[Value.ref s'.heap.objs.size]) gS rfl
    refine wpAny_bind (wpAny_letGo ?_)
    refine wpAny_bind (wpAny_updateSeq gS2 rfl ?_)
    have gS3 := Heap.get?_update_self (Obj.mapSeq fun _ => #[Value.ref s'.heap.objs.size]) gS2 rfl
    have off : ∀ b o, b ≠ S → s'.heap.get? b = some o → ((g.update S (Obj.mapSeq fun _ => #[Value.ref s'.heap.objs.size])).update S (Obj.mapSeq fun _ => #[Value.ref s'.heap.objs.size])).get? b = some o := fun b o hb e =>
      (Heap.get?_update_other _ _ (Ne.symm hb)).trans ((Heap.get?_update_other _ _ (Ne.symm hb)).trans (old b o e))
    refine wpAny_pure ⟨plainId_quiet F.plain_sum_loop _, ih (i + 1) _ s'.heap.objs.size _ (by omega) lt (W.frame _ s' _ _ st' (Nat.le_refl _) fun b hb o e => off b o (fun z => out (by rw [← z]; exact hb)) e) (fun z => ?_) (fun z => ?_) (fun _ => ?_) (fun j a' x' h1 h2 => ?_) ?_ gS3 fun s'' T' mv2 hT' => ?_⟩
    · have := hwr _ z
      exact absurd this (Nat.ne_of_gt big)
    · exact absurd z (Nat.ne_of_gt bigS)
    · refine ⟨Nat.le_trans hNI (Nat.le_of_lt big), 0, (Heap.get?_update_other _ _ ?_).trans ((Heap.get?_update_other _ _ ?_).trans new)⟩ <;> exact Nat.ne_of_lt bigS
    · obtain ⟨h3, h4⟩ := notW a' (List.mem_of_getElem? h1)
      exact (hls j a' x' h1 h2).up fun o z => off a' o h4 (mv.heap a' o h3 z)
    · refine ⟨_, (Heap.get?_update_other _ _ ?_).trans ((Heap.get?_update_other _ _ ?_).trans new), rfl, 0, rfl⟩ <;> exact Nat.ne_of_lt bigS
    · refine k s'' T' (Moved.trans W.gtrans ((mv.mono up).then_heap (Nat.le_refl _) fun b o hb e => off b o (fun z => hb (by rw [z]; exact List.mem_cons_self)) e) mv2) hT'
end

/-- sum(classes, []): lists of anything, one behind the other -/
def rSumL (K : PySem.W.Frag) : List V → Hp → VK → Prop := fun vs H Q => ∃ (l e : Addr) (as : List Addr) (xss : List (List V)), vs = [.ref l, .ref e] ∧ SqL K H l (as.map V.ref) ∧ SqL K H e [] ∧ as.length = xss.length ∧ 0 < as.length ∧
  (∀ (j : Nat) a xs, as[j]? = some a → xss[j]? = some xs → SqL K H a xs) ∧ xss.flatten.length ≤ sizeLine ∧ ∀ p, H p = none → Q (.ref p) (upd H p (.lst xss.flatten))
theorem refs_vals : ∀ {as : List Addr} {us : List Value}, Vals (as.map V.ref) us → us = as.map Value.ref
  | [], _, .nil => rfl
  | a :: as, _, .cons r t => by
    cases r
    rw [refs_vals t]
    rfl
theorem vals_flat : ∀ {xss : List (List V)} {uss : List (List Value)}, xss.length = uss.length → (∀ (j : Nat) xs us, xss[j]? = some xs → uss[j]? = some us → Vals xs us) → Vals xss.flatten uss.flatten
  | [], [], _, _ => .nil
  | xs :: xss, us :: uss, hl, h => by
    rw [List.flatten_cons, List.flatten_cons]
    exact (h 0 xs us rfl rfl).append (vals_flat (by simpa using hl) fun j a b h1 h2 => h (j + 1) a b h1 h2)
theorem call_sumL {X : Cx} (hc : X.calm = true) : CallR X (.builtin "sum") (rSumL X.K) := by
  intro pins s σ H vs us Q Iv r h
  obtain ⟨l, e, as, xss, rfl, hl, he, len, pos, hin, room, q⟩ := h
  obtain ⟨u1, u2, rfl, r1, r2⟩ := vals2 r
  cases r1
  cases r2
  obtain ⟨its, rv, pl, _⟩ := Iv.list hl
  have ei := refs_vals rv
  subst ei
  obtain ⟨ite, rve, pe, _⟩ := Iv.list he
  cases rve
  obtain ⟨ol, el, _⟩ := id pl.isList
  obtain ⟨oe, ee, ce, _⟩ := id pe.isList
  -- the inner lists as they lie
  have inner : ∀ j : Nat, j < as.length → ∃ us : List Value, ∀ a xs, as[j]? = some a → xss[j]? = some xs → Vals xs us ∧ LstAt s.heap a us := fun j hj => by
    obtain ⟨it, rw', pj, _⟩ := Iv.list (hin j _ _ (List.getElem?_eq_getElem hj) (List.getElem?_eq_getElem (by omega)))
    refine ⟨it, fun a xs h1 h2 => ?_⟩
    rw [List.getElem?_eq_getElem hj] at h1
    rw [List.getElem?_eq_getElem (by omega)] at h2
    cases h1
    cases h2
    exact ⟨rw', pj.isList⟩
  let uss : List (List Value) := (List.range as.length).map fun j => if hj : j < as.length then (inner j hj).choose else []
  have ulen : uss.length = as.length := by simp [uss]
  have uat : ∀ (j : Nat) a xs us, as[j]? = some a → xss[j]? = some xs → uss[j]? = some us → Vals xs us ∧ LstAt s.heap a us := fun j a xs us h1 h2 h3 => by
    have hj : j < as.length := (List.getElem?_eq_some_iff.mp h1).1
    have : uss[j]? = some (inner j hj).choose := by
      simp [uss, hj]
    rw [this] at h3
    cases h3
    exact (inner j hj).choose_spec a xs h1 h2
  have flat : Vals xss.flatten uss.flatten := vals_flat (by rw [ulen, len]) fun j xs us h1 h2 => by
    have hj : j < as.length := by
      have := (List.getElem?_eq_some_iff.mp h1).1
      omega
    exact (uat j _ xs us (List.getElem?_eq_getElem hj) h1 h2).1
  have hh : X.A.handled = none := Iv.ok.hd hc
  refine call_function_tree F.kind_sum F.plain_sum F.entry_sum (sum_args2 _ _) ?_
  unfold Builtin.«sum»
  simp only [List.length_cons, List.length_nil]
  rw [if_neg (by decide)]
  refine wpAny_bind (wpAny_of_eq (show Builtin.Builtins.bindParams "sum" ["start"] 0 ⟨[Value.ref e], []⟩ = pure [some (Value.ref e)] from rfl) ?_)
  have isL : s.heap.IsList l (as.map Value.ref).toArray := pl.isList
  refine wpAny_bind (wpAny_pyIter_list isL ?_)
  generalize hg : s.heap.push { cls := .type "list_iterator", data := .fields #[.ref l, .int 0 0] } = g
  have g_old : ∀ b o, s.heap.get? b = some o → g.get? b = some o := fun b o z => by
    rw [← hg]
    exact Heap.get?_push_of_some _ z
  have g_it : g.IsListIter s.heap.objs.size l 0 := by
    rw [← hg]
    exact ⟨_, Heap.get?_push_size _ rfl, rfl, rfl⟩
  have g_sz : g.objs.size = s.heap.objs.size + 1 := by
    rw [← hg]
    exact Heap.size_push ..
  dsimp only
  refine wpAny_bind (wpAny_pure ?_)
  have tL : Shared.TypeIs { s with heap := g } (.ref e) "list" := ⟨_, g_old _ _ ee, ce⟩
  simp only [List.forIn_cons, List.forIn_nil]
  refine wpAny_bind (wpAny_bind (wpAny_bind (wpAny_isInstance (T := "list") (b := false) tL lst_str ?_)))
  simp only [Bool.false_eq_true, if_false]
  refine wpAny_pure (wpAny_bind (wpAny_bind (wpAny_isInstance (T := "list") (b := false) tL lst_bytes ?_)))
  simp only [Bool.false_eq_true, if_false]
  refine wpAny_pure (wpAny_bind (wpAny_bind (wpAny_isInstance (T := "list") (b := false) tL lst_bytearray ?_)))
  simp only [Bool.false_eq_true, if_false]
  refine wpAny_pure (wpAny_pure ?_)
  refine wpAny_bind (wpAny_newObj_type ?_)
  have lt_l : l < s.heap.objs.size := Heap.lt_size el
  have lt_e : e < s.heap.objs.size := Heap.lt_size ee
  have apart : l ≠ s.heap.objs.size := Nat.ne_of_lt lt_l
  have hS : g.objs.size ∉ [s.heap.objs.size, l] := by
    rw [g_sz]
    simp only [List.mem_cons, List.not_mem_nil, or_false, not_or]
    exact ⟨Nat.ne_of_gt (Nat.lt_succ_self _), Nat.ne_of_gt (Nat.lt_succ_of_lt lt_l)⟩
  have h3 : X.A.in1.handled = none := by simpa using hh
  have lt_in : ∀ a ∈ as, a < s.heap.objs.size := fun a ha => by
    obtain ⟨j, hj, e1⟩ := List.getElem_of_mem ha
    obtain ⟨_, _, ⟨_, _, ej, _⟩, _⟩ := Iv.list (hin j a _ (by rw [List.getElem?_eq_getElem hj, e1]) (List.getElem?_eq_getElem (by omega)))
    exact Heap.lt_size ej
  have W0 := (PySem.Walks.list (prog := X.prog) (w := X.w) h3 s.heap.objs.size l apart (as.map Value.ref).toArray).toS
  have e2 : (as.map Value.ref).toArray.size = as.length := by simp
  rw [e2] at W0
  have ne_in : ∀ a, a < s.heap.objs.size → a ∉ [s.heap.objs.size] ∧ a ≠ g.objs.size := fun a ha => by
    rw [g_sz]
    refine ⟨fun z => ?_, Nat.ne_of_lt (Nat.lt_succ_of_lt ha)⟩
    rw [List.mem_singleton] at z
    exact absurd z (Nat.ne_of_lt ha)
  refine wpAny_pure ⟨plainId_quiet F.plain_sum_loop _, sum_lists as uss ulen.symm W0 (fun i v hv => ?_) g.objs.size hS (by rw [← flat.length]; exact room) s.heap.objs.size (fun a ha => ne_in a (lt_in a ha)) (fun b hb => by simpa using hb) (Nat.le_refl _) (fun i s1 st => ?_)
      (as.length - 0) 0 _ e 0 rfl (Nat.zero_le _) ?_ (ne_in e lt_e).1 (ne_in e lt_e).2 (fun z => absurd z (Nat.lt_irrefl 0)) (fun j a x h1 h2 => ?_) ?_ ?sl fun s' T' mv hT' => ?_⟩
  case sl => exact Heap.get?_push_size _ rfl
  · have h1 : (as.map Value.ref)[i]? = some v := by simpa using hv
    rw [List.getElem?_map] at h1
    cases z : as[i]? with
    | none =>
      rw [z] at h1
      cases h1
    | some a =>
      rw [z] at h1
      cases h1
      exact ⟨a, rfl, rfl⟩
  · obtain ⟨⟨o, ho, _⟩, _⟩ := st
    exact Heap.lt_size ho
  · refine ⟨?_, ?_⟩
    · exact g_it.at fun o z => Heap.get?_push_of_some _ z
    · exact LstAt.up (xs := as.map Value.ref) isL fun o z => Heap.get?_push_of_some _ (g_old _ _ z)
  · have hj : j < as.length := (List.getElem?_eq_some_iff.mp h1).1
    exact (uat j a _ x h1 (List.getElem?_eq_getElem (by omega)) h2).2.up fun o z => Heap.get?_push_of_some _ (g_old _ _ z)
  · exact LstAt.up (xs := []) pe.isList fun o z => Heap.get?_push_of_some _ (g_old _ _ z)
  · obtain ⟨hT2, n, en⟩ := hT' pos
    obtain ⟨g2, gs, dr, tk, os⟩ := s'
    have e1 : gs = s.gens := mv.gens
    have e3 : dr = s.drawn := mv.drawn
    have e4 : os = s.os := mv.os
    subst e1
    subst e3
    subst e4
    have keep : ∀ b o, s.heap.get? b = some o → g2.get? b = some o := fun b o z => by
      have lt := Heap.lt_size z
      refine mv.heap b o (fun hb => ?_) (Heap.get?_push_of_some _ (g_old b o z))
      have h1 := ne_in b lt
      rcases List.mem_cons.mp hb with hb | hb
      · exact h1.2 hb
      · exact h1.1 hb
    have J : Inv X pins σ (upd H T' (.lst xss.flatten)) { s with heap := g2, toks := tk } := Iv.laid (t' := tk) keep hT2 (show ObjOk X.prog X.w _ g2 T' (.lst xss.flatten) from ⟨room, uss.flatten, n, flat, en⟩)
    exact ⟨.ref T', _, J, rfl, q T' (Iv.hok.fresh hT2)⟩
end Dl

/-! ## lists of lists, stores, sorted, in -/
namespace Dl
open PySem PySem.Spec PyProof.Rows L2

section
variable {K : PySem.W.Frag} {W : Fx} {EX : Hp → Prop} {ρ : List Sk} {P P1 P2 : PyData → Prop} {te ta tb tk : TE} {ds : List PyData} {tr : TS} {O : Out} {PA : List PyData → Prop}
def rListOf (K : PySem.W.Frag) : List V → Hp → VK → Prop := fun xs H Q => ∃ p ys, xs = [.ref p] ∧ (SqL K H p ys ∨ SqT K H p ys) ∧ ∀ l, H l = none → Q (.ref l) (upd H l (.lst ys))
theorem evf_listT (h : EvN K W te ρ (fun d => ∃ ds, PA ds ∧ d = .tuple ds)) : EvF K W (tCB (rListOf K) (tCons te tNil)) ρ PA := fun D0 H0 D H σ e Q q =>
  h D0 H0 D H σ e _ fun v D1 H1 d s1 q1 ⟨ds, p, e1⟩ => by
    subst e1
    cases q1 with
    | tup h1 h2 =>
      have o1 := s1.ok e.ok
      exact ⟨_, _, rfl, Or.inr (same_t s1.sub h1), fun l hl => q l _ D1 _ _ (s1.trans e.ok (.keptH o1 (same_new hl))) (fresh_of e.ok s1 hl) (o1.sub.free hl) upd_same h2 p⟩
theorem evf_lstRg {n : Nat} (h : EvD K W te ρ (.int (n : Int))) (hn : n ≤ 100000) : EvF K W (tLstRg (tRg1 te)) ρ (· = ups 0 n) := fun D0 H0 D H σ e Q q =>
  h D0 H0 D H σ e _ fun v D1 H1 d s1 q1 p1 => by
    subst p1
    cases q1
    have o1 := s1.ok e.ok
    have er : rgV 0 (n : Int) = (List.range n).map fun i => V.int (0 + (i : Nat)) := by
      unfold rgV
      rw [Int.sub_zero, Int.toNat_natCast]
    have dq : ∀ D : Hp, DqA K D (rgV 0 (n : Int)) (ups 0 n) := fun D => by
      rw [er]
      unfold ups
      have aux : ∀ ks : List Nat, DqA K D (ks.map fun i => V.int (0 + (i : Nat))) (ks.map fun (i : Nat) => PyData.int (0 + (i : Int))) := fun ks => by
        induction ks with
        | nil => exact .nil
        | cons k ks ih => exact .cons (.int _) ih
      exact aux _
    refine ⟨(n : Int), rfl, .of_le (Int.le_refl 0) (by omega) (by decide) (by omega), fun l hl => ?_⟩
    exact q l _ D1 _ _ (s1.trans e.ok (.keptH o1 (same_new hl))) (fresh_of e.ok s1 hl) (o1.sub.free hl) upd_same (dq _) rfl
theorem evf_sortI {PN : List Int → Prop} (h : EvB K W te ρ (fun ds => ∃ ns : List Int, ds = ns.map .int ∧ PN ns)) : EvF K W (tCB (rSortedI K) (tCons te tNil)) ρ (fun es => ∃ ns ns' : List Int, PN ns ∧ ns'.Perm ns ∧ ns'.Pairwise (· ≤ ·) ∧ es = ns'.map .int) := fun D0 H0 D H σ e Q q =>
  h D0 H0 D H σ e _ fun l xs D1 H1 ds s1 hl q1 ⟨ns, e1, p⟩ => by
    subst e1
    have o1 := s1.ok e.ok
    have ex := q1.isInts
    subst ex
    exact ⟨l, ns, rfl, hl, fun ns' p' h1 h2 h3 => q p' _ D1 _ _ (s1.trans e.ok (.keptH o1 (same_new h3))) (fresh_of e.ok s1 h3) (o1.sub.free h3) upd_same (DqA.ints ns') ⟨ns, ns', p, h1, h2, rfl⟩⟩
theorem evf_sortSet {w : World} {PN : List Int → Prop} (h : EvB K W te ρ (fun ds => ∃ ns : List Int, ds = ns.map .int ∧ ns.length < 64 ∧ PN ns)) : EvF K W (tCB (rSortedSet w) (tCons (tCB (rSetI K w) (tCons te tNil)) tNil)) ρ (fun es => ∃ ns ns' : List Int, PN ns ∧ ns'.Pairwise (· < ·) ∧ (∀ k, k ∈ ns' ↔ k ∈ ns) ∧ ns'.length ≤ ns.length ∧ es = ns'.map .int) := fun D0 H0 D H σ e Q q =>
  h D0 H0 D H σ e _ fun l xs D1 H1 ds s1 hl q1 ⟨ns, e1, hz, p⟩ => by
    subst e1
    have o1 := s1.ok e.ok
    have ex := q1.isInts
    subst ex
    refine ⟨l, ns, rfl, hl, by omega, fun a f c ha hf hc => ?_⟩
    have s2 : Step W D H D1 (upd H1 a (SetO w a f c)) := s1.trans e.ok (.keptH o1 (same_new ha))
    have o2 := s2.ok e.ok
    refine ⟨a, f, c, rfl, upd_same, by omega, fun ns' b h1 h2 h3 h4 => ?_⟩
    exact q b _ D1 _ _ (s2.trans e.ok (.keptH o2 (same_new h4))) (fresh_of e.ok s2 h4) (o2.sub.free h4) upd_same (DqA.ints ns') ⟨ns, ns', p, h1, fun k => (h2 k).trans (hf k), by omega, rfl⟩
theorem st_store {i k : Nat} (hρ : ρ[i]? = some (.own ds)) (h : EvN K W te ρ P) (hk : EvD K W tk ρ (.int (k : Int))) (hlt : k < ds.length) (kk : ∀ d, P d → StG K W EX tr (ρ.set i (.own (ds.set k d))) O) :
    StG K W EX (tSeq (tAsg te (gSub (tVar i) tk rSetL)) tr) ρ O := fun D0 H0 D H σ Dn e kn kb kc kr kx =>
  h D0 H0 D H σ e _ fun v D1 H1 d s1 q1 p1 => by
    have e1 := e.step s1
    obtain ⟨o, q0, l, xs, q2, q3, q4, q5, q6, q7⟩ := e1.slot i _ hρ
    subst q2
    refine ⟨.ref l, q0, ?_⟩
    refine hk D0 H0 D1 H1 σ e1 _ fun v2 D2 H2 d2 s2 y2 p2 => ?_
    subst p2
    cases y2
    have e2 := e1.step s2
    obtain ⟨o', r1, l', xs', r2, r3, r4, r5, r6, r7⟩ := e2.slot i _ hρ
    rw [q0] at r1
    cases r1
    cases r2
    refine ⟨l, xs', _, k, rfl, rfl, r6, ixN_of (by rw [r7.len]; exact hlt), ?_⟩
    have g := s1.gro.trans s2.gro
    exact kk d p1 D0 H0 D2 _ σ Dn (e2.write hρ q0 (r7.setAt k (q1.up s2.gro))) (fun a b c x g2 => kn a b c x (g.trans g2)) (fun a b c x g2 => kb a b c x (g.trans g2)) (fun a b c x g2 => kc a b c x (g.trans g2)) kr kx
theorem ev_slTA {tl th : TO} (h : EvD K W te ρ (.tuple ds)) (hl : EvO K W tl ρ) (hh : EvO K W th ρ) : EvN K W (L2.tSl (rSlA K) te tl th) ρ (fun d => ∃ es, (∃ i j, es = (ds.drop i).take j) ∧ d = .tuple es) := fun D0 H0 D H σ e Q q =>
  h D0 H0 D H σ e _ fun v D1 H1 d s1 q1 p1 => hl D0 H0 D1 H1 σ (e.step s1) _ fun lo D2 H2 s2 => hh D0 H0 D2 H2 σ ((e.step s1).step s2) _ fun hi D3 H3 s3 => by
    subst p1
    cases q1 with
    | tup h1 h2 =>
      have s13 := (s1.trans e.ok s2).trans e.ok s3
      have o3 := s13.ok e.ok
      have g := s2.gro.trans s3.gro
      refine ⟨_, _, rfl, same_t (g.trans o3.sub) h1, fun _ => q _ D3 H3 _ s13 (.tup (same_t g h1) (h2.up g)) ⟨ds, ⟨0, ds.length, by simp⟩, rfl⟩, fun _ p hp => ?_⟩
      refine q _ _ _ _ (s13.trans e.ok (Step.made o3 hp)) (.tup (SqT.of upd_same) (((h2.up g).up (same_new (o3.sub.free hp))).drop _ |>.take _)) ⟨_, ⟨_, _, rfl⟩, rfl⟩
theorem inV_ints {k : Int} (ns : List Int) : inV (.int k) (ns.map V.int) = decide (k ∈ ns) := by
  unfold inV
  rw [List.any_map]
  induction ns with
  | nil => rfl
  | cons n ns ih =>
    rw [List.any_cons, ih]
    show ((n == k) || _) = _
    by_cases h : n = k
    · simp [h]
    · have h' : ¬ k = n := fun z => h z.symm
      simp [h, h']
theorem flat_ints (ns : List Int) : (ns.map V.int).all flatV = true := by
  rw [List.all_map]
  exact List.all_eq_true.mpr fun _ _ => rfl
theorem rd_inL {neg : Bool} {k : Int} {ns : List Int} : RD K W (rIn K neg) (.int k) (.list (ns.map .int)) (· = .bool (if neg = true then !decide (k ∈ ns) else decide (k ∈ ns))) := fun D H x y o hx hy Q q => by
  cases hx
  cases hy with
  | lst h1 h2 =>
    have ex := h2.isInts
    subst ex
    refine ⟨_, _, rfl, Or.inl (same_l o.sub h1), rfl, flat_ints ns, ?_⟩
    rw [inV_ints]
    exact q _ D H _ (.refl o) (.bl _) rfl
theorem rd_inT {neg : Bool} {k : Int} {ns : List Int} : RD K W (rIn K neg) (.int k) (.tuple (ns.map .int)) (· = .bool (if neg = true then !decide (k ∈ ns) else decide (k ∈ ns))) := fun D H x y o hx hy Q q => by
  cases hx
  cases hy with
  | tup h1 h2 =>
    have ex := h2.isInts
    subst ex
    refine ⟨_, _, rfl, Or.inr (same_t o.sub h1), rfl, flat_ints ns, ?_⟩
    rw [inV_ints]
    exact q _ D H _ (.refl o) (.bl _) rfl
theorem lists_of_dq {D : Hp} : ∀ {vs : List V} (xss : List (List PyData)), DqA K D vs (xss.map .list) → ∃ (as : List Addr) (vss : List (List V)), vs = as.map V.ref ∧ as.length = vss.length ∧ vss.length = xss.length ∧ (∀ (j : Nat) a xs, as[j]? = some a → vss[j]? = some xs → SqL K D a xs) ∧ DqA K D vss.flatten xss.flatten
  | _, [], .nil => ⟨[], [], rfl, rfl, rfl, fun _ _ _ h => (nomatch h), .nil⟩
  | _, xs :: xss, .cons (.lst h1 h2) t => by
    obtain ⟨as, vss, e1, e2, e3, e4, e5⟩ := lists_of_dq xss t
    refine ⟨_ :: as, _ :: vss, by rw [e1]; rfl, by simp [e2], by simp [e3], fun j a ys ha hy => ?_, by rw [List.flatten_cons, List.flatten_cons]; exact h2.app e5⟩
    cases j with
    | zero =>
      cases ha
      cases hy
      exact h1
    | succ j => exact e4 j a ys ha hy
theorem evf_sumL {xss : List (List PyData)} (ha : EvD K W ta ρ (.list (xss.map .list))) (hb : EvD K W tb ρ (.list [])) (h0 : 0 < xss.length) (hz : xss.flatten.length ≤ sizeLine) : EvF K W (tCB (rSumL K) (tCons ta (tCons tb tNil))) ρ (· = xss.flatten) := fun D0 H0 D H σ e Q q =>
  ha D0 H0 D H σ e _ fun v D1 H1 d s1 q1 p1 => hb D0 H0 D1 H1 σ (e.step s1) _ fun v2 D2 H2 d2 s2 q2 p2 => by
    subst p1
    subst p2
    have s12 := s1.trans e.ok s2
    have o2 := s12.ok e.ok
    cases q1 with
    | lst h1 h2 =>
      cases q2 with
      | lst h3 h4 =>
        cases h4
        obtain ⟨as, vss, rfl, e2, e3, e4, e5⟩ := lists_of_dq xss h2
        refine ⟨_, _, as, vss, rfl, same_l (s2.gro.trans o2.sub) h1, same_l o2.sub h3, e2, by omega, fun j a xs z1 z2 => same_l (s2.gro.trans o2.sub) (e4 j a xs z1 z2), by rw [e5.len]; exact hz, fun p hp => ?_⟩
        exact q p _ D2 _ _ (s12.trans e.ok (.keptH o2 (same_new hp))) (fresh_of e.ok s12 hp) (o2.sub.free hp) upd_same (e5.up s2.gro) rfl
theorem eqv_ints : ∀ (a b : List Int), PyData.eqv (.list (a.map .int)) (.list (b.map .int)) = decide (a = b)
  | [], b => by cases b <;> simp [PyData.eqv, PyData.eqvAll]
  | x :: a, [] => by simp [PyData.eqv, PyData.eqvAll]
  | x :: a, y :: b => by
    have ih := eqv_ints a b
    have e1 : PyData.eqv (.list (.int x :: a.map .int)) (.list (.int y :: b.map .int)) = (PyData.eqv (.int x) (.int y) && PyData.eqv (.list (a.map .int)) (.list (b.map .int))) := by simp [PyData.eqv, PyData.eqvAll]
    rw [List.map_cons, List.map_cons, e1, ih]
    by_cases h : x = y <;> simp [PyData.eqv, h]
end
end Dl

/-! ## an own list of own lists -/
namespace Dl
open PySem PySem.Spec PyProof.Rows L2

/-- the list l of the lists at as, each of ints -/
def Wll (l : Addr) (as : List Addr) (xss : List (List Int)) : Fx where
  root := .ref l
  adr p := p = l ∨ p ∈ as
  inv H := as.length = xss.length ∧ as.Nodup ∧ l ∉ as ∧ H l = some (.lst (as.map V.ref)) ∧ ∀ (j : Nat) a ns, as[j]? = some a → xss[j]? = some ns → H a = some (.lst (ns.map V.int))
  keep := fun H H' ⟨h0, h1, h2, h3, h4⟩ k => ⟨h0, h1, h2, k l _ (Or.inl rfl) h3, fun j a ns e1 e2 => k a _ (Or.inr (List.mem_of_getElem? e1)) (h4 j a ns e1 e2)⟩
  has := fun H a ⟨h0, h1, h2, h3, h4⟩ ha => by
    rcases ha with rfl | ha
    · rw [h3]
      exact fun z => nomatch z
    · obtain ⟨j, hj⟩ := List.getElem?_of_mem ha
      have hl : j < xss.length := by
        have := (List.getElem?_eq_some_iff.mp hj).1
        omega
      rw [h4 j a _ hj (List.getElem?_eq_getElem hl)]
      exact fun z => nomatch z
  hasT := fun H a xs ⟨h0, h1, h2, h3, h4⟩ ha => by
    rcases ha with rfl | ha
    · rw [h3]
      exact fun z => nomatch z
    · obtain ⟨j, hj⟩ := List.getElem?_of_mem ha
      have hl : j < xss.length := by
        have := (List.getElem?_eq_some_iff.mp hj).1
        omega
      rw [h4 j a _ hj (List.getElem?_eq_getElem hl)]
      exact fun z => nomatch z

section
variable {K : PySem.W.Frag} {W W' : Fx} {ρ : List Sk} {D0 H0 D H D1 H1 H2 : Hp} {σ : L2.St}
theorem Step.thr (s : Step Fx.non D0 H0 D H) (f : ∀ p, W.adr p → H0 p = none) (t : Step W D H D1 H1) : Step Fx.non D0 H0 D1 H1 where
  gro := s.gro.trans t.gro
  sub := t.sub
  off := fun p u _ e => t.off p u (fun z => by rw [f p z] at e; cases e) (s.off p u (fun z => z) e)
  new := fun p h e y => t.new p (s.new p h e y) (by
    cases q : H0 p with
    | none => exact (e q).elim
    | some u =>
      rw [s.off p u (fun z => z) q]
      exact fun z => nomatch z) (fun xs => by
    cases q : H0 p with
    | none => exact (e q).elim
    | some u =>
      rw [s.off p u (fun z => z) q, ← q]
      exact y xs)
  inv := trivial
theorem Step.put (s : Step Fx.non D0 H0 D H) {a : Addr} {u : HO} (h0 : H0 a = none) (hd : D a = none) : Step Fx.non D0 H0 D (upd H a u) where
  gro := s.gro
  sub := fun p x e => by
    rw [upd_ne (fun z => by rw [z, hd] at e; cases e)]
    exact s.sub p x e
  off := fun p x _ e => by
    rw [upd_ne (fun z => by rw [z, h0] at e; cases e)]
    exact s.off p x (fun z => z) e
  new := s.new
  inv := trivial
theorem Env.re (e : Env K W D0 H0 D H σ ρ) (no : ∀ (i : Nat) (s : Shp) (ds : List PyData), ρ[i]? ≠ some (Sk.ob s ds)) (hr : ∀ i : Nat, ρ[i]? = some Sk.rt → W'.root = W.root) (ok : Ok W' D H2) : Env K W' D H2 D H2 σ ρ where
  ok0 := ok
  st := .refl ok
  slot := fun i k h => by
    obtain ⟨o, h1, h2⟩ := e.slot i k h
    refine ⟨o, h1, ?_⟩
    cases k with
    | any => trivial
    | rt =>
      have h2 : o = some W.root := h2
      show o = some W'.root
      rw [hr i h, h2]
    | dat d => exact h2
    | dd f => exact h2
    | ob s ds => exact absurd h (no i s ds)
  dist := fun i j l s t ds es h1 _ _ _ => absurd h1 (no i s ds)
theorem Env.mark (e : Env K W D0 H0 D H σ ρ) {i : Nat} (hl : i < ρ.length) (hi : σ[i]? = some (some W.root)) : Env K W D0 H0 D H σ (ρ.set i .rt) where
  ok0 := e.ok0
  st := e.st
  slot := fun j k h => by
    by_cases hj : i = j
    · subst hj
      rw [List.getElem?_set_self hl] at h
      cases h
      exact ⟨_, hi, rfl⟩
    · rw [List.getElem?_set_ne hj] at h
      exact e.slot j k h
  dist := fun j k l sh th ds es h1 h2 => by
    have own_of : ∀ (j : Nat) sh fs, (ρ.set i .rt)[j]? = some (.ob sh fs) → ρ[j]? = some (.ob sh fs) := fun j sh fs h => by
      by_cases hj : i = j
      · subst hj
        rw [List.getElem?_set_self hl] at h
        cases h
      · rw [List.getElem?_set_ne hj] at h
        exact h
    exact e.dist j k l sh th ds es (own_of j _ _ h1) (own_of k _ _ h2)
/-- [[] for i in range(n)] -/
theorem ll_new {n i : Nat} (hn : n ≤ 1000) {Q : VK} (q : ∀ l as H', Same H H' → H l = none → (∀ a ∈ as, H a = none) → (Wll l as (List.replicate n [])).inv H' → Q (.ref l) H') :
    tLc (iRng1 (tCons (tC (.int (n : Int))) tNil)) (gName i) tYes (tLst tNil) [i] σ H Q := by
  refine ⟨(n : Int), rfl, by omega, by omega, fun L hL => ?_⟩
  rw [Int.toNat_natCast]
  refine ⟨fun k m H2 => m = n - k ∧ k ≤ n ∧ ∃ as : List Addr, as.length = k ∧ as.Nodup ∧ L ∉ as ∧ H2 L = some (.lst (as.map V.ref)) ∧ (∀ a ∈ as, H a = none ∧ H2 a = some (.lst [])) ∧ Same H H2, ⟨_, rfl, Nat.zero_le _, [], rfl, List.nodup_nil, List.not_mem_nil, upd_same, (fun a ha => nomatch ha), same_new hL⟩, ?_⟩
  rintro k m H2 ⟨rfl, hk, as, h1, h2, h3, h4, h5, h6⟩
  by_cases hlt : k < n
  · refine Or.inr ⟨hlt, fun H' => k + 1 ≤ n ∧ ∃ as : List Addr, as.length = k + 1 ∧ as.Nodup ∧ L ∉ as ∧ H' L = some (.lst (as.map V.ref)) ∧ (∀ a ∈ as, H a = none ∧ H' a = some (.lst [])) ∧ Same H H', fun H' h => ⟨n - (k + 1), by omega, rfl, h⟩, ?_⟩
    rintro x H3 ⟨rfl, rfl⟩
    refine ⟨?_, ?_⟩
    · rw [wipe_eq (js := [i]) (by rw [List.length_set]) (fun j hj => hj) (fun j hj => List.getElem?_set_ne (fun z => hj (by simp [z]))), wipe_idem]
    · unfold tYes
      show (if true = true then _ else _)
      rw [if_pos rfl]
      refine ⟨Nat.zero_le _, fun p hp => ?_⟩
      have hLp : L ≠ p := fun z => by
        rw [← z, h4] at hp
        cases hp
      have hpa : p ∉ as := fun z => by
        rw [(h5 p z).2] at hp
        cases hp
      have hHp : H p = none := by
        cases z : H p with
        | none => rfl
        | some u =>
          rw [h6 p u z] at hp
          cases hp
      refine ⟨as.map V.ref, by rw [upd_ne hLp]; exact h4, ?_, hlt, as ++ [p], by rw [List.length_append, h1]; rfl, ?_, ?_, ?_, fun a ha => ?_, fun b u z => ?_⟩
      · rw [List.length_map, h1, sizeLine_eq]
        omega
      · rw [List.nodup_append]
        exact ⟨h2, by simp, fun a ha b hb z => hpa (by rw [List.mem_singleton] at hb; rw [← hb, ← z]; exact ha)⟩
      · rw [List.mem_append, List.mem_singleton]
        exact fun z => z.elim h3 hLp
      · rw [upd_same, List.map_append]
        rfl
      · rcases List.mem_append.mp ha with ha | ha
        · have : a ≠ L := fun z => h3 (by rw [← z]; exact ha)
          have hap : a ≠ p := fun z => hpa (by rw [← z]; exact ha)
          rw [upd_ne this, upd_ne hap]
          exact h5 a ha
        · rw [List.mem_singleton] at ha
          subst ha
          rw [upd_ne (Ne.symm hLp), upd_same]
          exact ⟨hHp, rfl⟩
      · rw [upd_ne (fun w => by rw [w, hL] at z; cases z), upd_ne (fun w => by rw [w, hHp] at z; cases z)]
        exact h6 b u z
  · have hie : k = n := by omega
    subst hie
    refine Or.inl ⟨Nat.le_refl _, q L as H2 h6 hL (fun a ha => (h5 a ha).1) ⟨by rw [List.length_replicate]; exact h1, h2, h3, h4, fun j a ns e1 e2 => ?_⟩⟩
    have : ns = [] := by
      rw [List.getElem?_replicate] at e2
      split at e2
      · cases e2
        rfl
      · cases e2
    subst this
    exact (h5 a (List.mem_of_getElem? e1)).2
theorem dqA_lists : ∀ (as : List Addr) (xss : List (List Int)), as.length = xss.length → (∀ (j : Nat) a ns, as[j]? = some a → xss[j]? = some ns → D a = some (.lst (ns.map V.int))) → DqA K D (as.map V.ref) (xss.map fun ns => .list (ns.map .int))
  | [], [], _, _ => .nil
  | [], _ :: _, h, _ => nomatch h
  | _ :: _, [], h, _ => nomatch h
  | a :: as, xs :: xss, h, k => .cons (.lst (SqL.of (k 0 a xs rfl rfl)) (DqA.ints xs)) (dqA_lists as xss (by simpa using h) fun j b ns e1 e2 => k (j + 1) b ns e1 e2)
/-- the lists stand still from now on -/
theorem ll_still {l : Addr} {as : List Addr} {xss : List (List Int)} (s : Step Fx.non D0 H0 D H) (f : ∀ p, p = l ∨ p ∈ as → H0 p = none) (ok : Ok (Wll l as xss) D H) :
    ∃ D', Step Fx.non D0 H0 D' H ∧ Same D D' ∧ Dq K D' (.ref l) (.list (xss.map fun ns => .list (ns.map .int))) := by
  obtain ⟨h0, h1, h2, h3, h4⟩ := ok.inv
  classical
  let D' : Hp := fun p => if p = l ∨ p ∈ as then H p else D p
  have dn : ∀ p, p = l ∨ p ∈ as → D p = none := fun p hp => ok.off p hp
  have din : ∀ p, (p = l ∨ p ∈ as) → D' p = H p := fun p hp => if_pos hp
  have dout : ∀ p, ¬ (p = l ∨ p ∈ as) → D' p = D p := fun p hp => if_neg hp
  have gd : Same D D' := fun p u z => by
    rw [dout p fun hp => by rw [dn p hp] at z; cases z]
    exact z
  refine ⟨D', ⟨s.gro.trans gd, fun p u z => ?_, s.off, fun p z1 z2 z3 => ?_, trivial⟩, gd, ?_⟩
  · by_cases hp : p = l ∨ p ∈ as
    · rw [din p hp] at z
      exact z
    · rw [dout p hp] at z
      exact s.sub p u z
  · rw [dout p fun hp => z2 (f p hp)]
    exact s.new p z1 z2 z3
  · refine .lst (SqL.of ((din l (Or.inl rfl)).trans h3)) (dqA_lists as xss h0 fun j a ns e1 e2 => (din a (Or.inr (List.mem_of_getElem? e1))).trans (h4 j a ns e1 e2))
end
end Dl

/-! ## slices told, sorted rows -/
namespace Dl
open PySem PySem.Spec PyProof.Rows L2

section
variable {K : PySem.W.Frag} {W : Fx} {ρ : List Sk} {te : TE} {ds : List PyData}
def EvOv (K : PySem.W.Frag) (W : Fx) (to : TO) (ρ : List Sk) (v : Option Int) : Prop := ∀ D0 H0 D H σ, Env K W D0 H0 D H σ ρ → ∀ Q : Option Int → Hp → Prop,
  (∀ D' H', Step W D H D' H' → Q v H') → to σ H Q
theorem eov_no : EvOv K W tNoPart ρ none := fun D0 H0 D H σ e Q q => q D H (.refl e.ok)
theorem eov_some {i : Int} (h : EvD K W te ρ (.int i)) : EvOv K W (tPart te) ρ (some i) := fun D0 H0 D H σ e Q q =>
  h D0 H0 D H σ e _ fun v D1 H1 d s1 q1 p1 => by
    subst p1
    cases q1
    exact ⟨i, rfl, q D1 H1 s1⟩
def cutQ (ds : List PyData) (lo hi : Option Int) : List PyData := (ds.drop (HT.sIx ds.length 0 lo)).take (HT.sIx ds.length ds.length hi - HT.sIx ds.length 0 lo)
theorem ev_slTv {tl th : TO} {lo hi : Option Int} (h : EvD K W te ρ (.tuple ds)) (hl : EvOv K W tl ρ lo) (hh : EvOv K W th ρ hi) : EvD K W (L2.tSl (rSlA K) te tl th) ρ (.tuple (cutQ ds lo hi)) := fun D0 H0 D H σ e Q q =>
  h D0 H0 D H σ e _ fun v D1 H1 d s1 q1 p1 => hl D0 H0 D1 H1 σ (e.step s1) _ fun D2 H2 s2 => hh D0 H0 D2 H2 σ ((e.step s1).step s2) _ fun D3 H3 s3 => by
    subst p1
    cases q1 with
    | tup h1 h2 =>
      have s13 := (s1.trans e.ok s2).trans e.ok s3
      have o3 := s13.ok e.ok
      have g := s2.gro.trans s3.gro
      have hlen := h2.len
      refine ⟨_, _, rfl, same_t (g.trans o3.sub) h1, fun hw => ?_, fun _ p hp => ?_⟩
      · have ec : cutQ ds lo hi = ds := by
          unfold cutQ
          rw [hlen] at hw
          rw [hw.1, hw.2, List.drop_zero, Nat.sub_zero, List.take_length]
        exact q _ D3 H3 (.tuple ds) s13 (.tup (same_t g h1) (h2.up g)) (by rw [ec])
      · refine q _ _ _ _ (s13.trans e.ok (Step.made o3 hp)) (.tup (SqT.of upd_same) ?_) rfl
        unfold cutV cutQ
        rw [hlen]
        exact ((h2.up g).up (same_new (o3.sub.free hp))).drop _ |>.take _
end
/-- .. of a sorted row there is one -/
theorem sorted_one : ∀ {a b : List Int}, a.Perm b → a.Pairwise (· ≤ ·) → b.Pairwise (· ≤ ·) → a = b
  | [], b, h, _, _ => (List.nil_perm.mp h).symm
  | x :: a, [], h, _, _ => absurd h.length_eq (by simp)
  | x :: a, y :: b, h, ha, hb => by
    rw [List.pairwise_cons] at ha hb
    have h1 : x = y := by
      have hx : x ∈ y :: b := h.mem_iff.mp List.mem_cons_self
      have hy : y ∈ x :: a := h.mem_iff.mpr List.mem_cons_self
      rcases List.mem_cons.mp hx with e | e
      · exact e
      · rcases List.mem_cons.mp hy with e' | e'
        · exact e'.symm
        · have h1 := ha.1 y e'
          have h2 := hb.1 x e
          omega
    subst h1
    rw [sorted_one h.cons_inv ha.2 hb.2]
theorem set_flat {α : Type} : ∀ {xss : List (List α)} {c : Nat} {xs : List α} {y : α}, xss[c]? = some xs → (xss.set c (xs ++ [y])).flatten.Perm (xss.flatten ++ [y])
  | [], _, _, _, h => nomatch h
  | xs :: xss, 0, _, y, h => by
    cases h
    rw [List.set_cons_zero, List.flatten_cons, List.flatten_cons, List.append_assoc, List.append_assoc]
    exact List.Perm.append_left _ List.perm_append_comm
  | ys :: xss, c + 1, xs, y, h => by
    rw [List.set_cons_succ, List.flatten_cons, List.flatten_cons, List.append_assoc]
    exact List.Perm.append_left _ (set_flat (by simpa using h))
end Dl

/-! ## zip of two tuples -/
namespace Dl
open PySem PySem.Spec PyProof.Rows L2 RZ

def zips : List PyData → List PyData → List PyData := List.zipWith fun a b => .tuple [a, b]
section
variable {K : PySem.W.Frag} {W : Fx} {ρ : List Sk} {te tf : TE} {ds es : List PyData}
theorem Walks.zipT {D : Hp} {a b : Addr} {xs ys : List V} (h1 : SqT K D a xs) (q1 : DqA K D xs ds) (h2 : SqT K D b ys) (q2 : DqA K D ys es) : Walks K W D (ItzT K a b) (zips ds es) := fun i D1 H1 o g => by
  have s1 : SqT K H1 a xs := same_t (g.trans o.sub) h1
  have s2 : SqT K H1 b ys := same_t (g.trans o.sub) h2
  refine ⟨fun d hd => ?_, fun hi => ⟨xs, ys, s1, s2, ?_⟩⟩
  · unfold zips at hd
    rw [List.getElem?_zipWith] at hd
    cases z1 : ds[i]? with
    | none =>
      rw [z1] at hd
      cases hd
    | some d1 =>
      cases z2 : es[i]? with
      | none =>
        rw [z1, z2] at hd
        cases hd
      | some d2 =>
        rw [z1, z2] at hd
        cases hd
        obtain ⟨v1, hv1, qv1⟩ := q1.at z1
        obtain ⟨v2, hv2, qv2⟩ := q2.at z2
        refine ⟨⟨xs, ys, v1, v2, s1, s2, hv1, hv2⟩, fun x H2 y => ?_⟩
        obtain ⟨T, x1, x2, e1, e2, e3, y1, y2⟩ := y
        subst e1
        subst e3
        have e4 := y1 xs s1
        rw [hv1] at e4
        cases e4
        have e5 := y2 ys s2
        rw [hv2] at e5
        cases e5
        have sN : Step W D1 H1 (upd D1 T (.tup [v1, v2])) (upd H1 T (.tup [v1, v2])) := .made o e2
        exact ⟨_, sN, .tup (Or.inl (Or.inl upd_same)) (.cons ((qv1.up g).up sN.gro) (.cons ((qv2.up g).up sN.gro) .nil))⟩
  · unfold zips at hi
    rw [List.length_zipWith] at hi
    rw [q1.len, q2.len]
    omega
theorem ei_zipT (ha : EvD K W te ρ (.tuple ds)) (hb : EvD K W tf ρ (.tuple es)) : EvI K W (iZipA K (tCons te (tCons tf tNil))) ρ (· = zips ds es) := fun D0 H0 D H σ e R k =>
  ha D0 H0 D H σ e _ fun v1 D1 H1 d1 s1 q1 p1 => hb D0 H0 D1 H1 σ (e.step s1) _ fun v2 D2 H2 d2 s2 q2 p2 => by
    subst p1
    subst p2
    have s12 := s1.trans e.ok s2
    cases q1 with
    | tup a1 a2 =>
      cases q2 with
      | tup b1 b2 => exact ⟨_, _, _, _, rfl, Or.inr ⟨same_t (s2.gro.trans s2.sub) a1, same_t s2.sub b1, k _ D2 H2 _ s12 (.zipT (same_t s2.gro a1) (a2.up s2.gro) b1 b2) rfl⟩⟩
variable {ta tb tc : TE}
theorem ev_chain {r r' : R2} {b c : Bool} {d1 d2 d3 : PyData} (ha : EvD K W ta ρ d1) (hb : EvD K W tb ρ d2) (hc : EvD K W tc ρ d3) (h1 : RD K W r d1 d2 (· = .bool b)) (h2 : RD K W r' d2 d3 (· = .bool c)) :
    EvD K W (tChain r r' ta tb tc) ρ (.bool (b && c)) := fun D0 H0 D H σ e Q q =>
  ha D0 H0 D H σ e _ fun x D1 H1 e1 s1 q1 p1 => by
    subst p1
    have o1 := e.step s1
    refine hb D0 H0 D1 H1 σ o1 _ fun y D2 H2 e2 s2 q2 p2 => ?_
    subst p2
    have o2 := o1.step s2
    refine h1 D2 H2 x y o2.ok (q1.up s2.gro) q2 _ fun z D3 H3 e3 s3 q3 p3 => ?_
    subst p3
    cases q3
    have o3 := o2.step s3
    have s123 := (s1.trans e.ok s2).trans e.ok s3
    refine ⟨b, rfl, ?_⟩
    cases b with
    | false => exact iteF (q (.bl false) D3 H3 _ s123 (.bl _) (by rw [Bool.false_and]))
    | true =>
      refine iteT (hc D0 H0 D3 H3 σ o3 _ fun w D4 H4 e4 s4 q4 p4 => ?_)
      subst p4
      refine h2 D4 H4 y w (o3.step s4).ok ((q2.up s3.gro).up s4.gro) q4 _ fun u D5 H5 e5 s5 q5 p5 => ?_
      exact q u D5 H5 _ ((s123.trans e.ok s4).trans e.ok s5) q5 (by rw [p5, Bool.true_and])
def noOwn (ρ : List Sk) : Bool := ρ.all fun k => match k with
  | .ob _ _ => false
  | _ => true
theorem noOwn_at (h : noOwn ρ = true) (i : Nat) (s : Shp) (xs : List PyData) : ρ[i]? ≠ some (Sk.ob s xs) := fun z => by
  have := List.all_eq_true.mp h _ (List.mem_of_getElem? z)
  cases this
theorem Env.off {D0 H0 D4 H4 D H : Hp} {σ : L2.St} (e : Env K W D0 H0 D4 H4 σ ρ) (no : noOwn ρ = true) (st : Step W D0 H0 D H) (g : Same D4 D) : Env K W D0 H0 D H σ ρ where
  ok0 := e.ok0
  st := st
  slot := fun i k h => by
    obtain ⟨o, h1, h2⟩ := e.slot i k h
    refine ⟨o, h1, ?_⟩
    cases k with
    | any => trivial
    | rt => exact h2
    | dat d =>
      obtain ⟨v, e1, q⟩ := h2
      exact ⟨v, e1, q.up g⟩
    | dd f =>
      obtain ⟨a, kvs, e1, z1, z2⟩ := h2
      exact ⟨a, kvs, e1, same_rd g z1, fun k => (z2 k).imp id fun ⟨v, d, q1, q2, q3⟩ => ⟨v, d, q1, q2, q3.up g⟩⟩
    | ob s ds => exact absurd h (noOwn_at no i s ds)
  dist := fun i j l s t ds es h1 _ _ _ => absurd h1 (noOwn_at no i s ds)
variable {wi wi1 : TI} {g g1 : TG} {vs vs1 : List Nat}
/-- [e for x in .. for y in ..]: each walked whole -/
theorem evf_map2 {inn : PyData → List PyData} {f : PyData → PyData → PyData} (hv : ∀ v ∈ vs, v < ρ.length) (hv1 : ∀ v ∈ vs1, v < ρ.length) (hI : EvI K W wi ρ (· = ds)) (hn : (ds.flatMap fun d => (inn d).map (f d)).length ≤ 100000)
    (hs : ∀ d ∈ ds, ∃ ρ' js, (∀ j ∈ js, j ∈ vs) ∧ ρ'.length = ρ.length ∧ noOwn ρ' = true ∧ EvG K W g (wipeR ρ vs) d ρ' js ∧ EvI K W wi1 ρ' (· = inn d) ∧
      ∀ y ∈ inn d, ∃ ρ2 js2, (∀ j ∈ js2, j ∈ vs1) ∧ EvG K W g1 (wipeR ρ' vs1) y ρ2 js2 ∧ EvD K W te ρ2 (f d y)) :
    EvF K W (tLc2 wi g tYes wi1 g1 tYes te vs vs1) ρ (· = ds.flatMap fun d => (inn d).map (f d)) := fun D0 H0 D H σ e Q q => by
  refine hI D0 H0 D H σ e _ fun J D1 H1 ds' s1 wk p => ?_
  subst p
  intro L hL
  have e1 := e.step s1
  have o1 := e1.ok
  have hHL : H L = none := fresh_of e.ok s1 hL
  have hwL : ¬ W.adr L := fun hw => W.has H1 L s1.inv hw hL
  let Sm (D2 H2 : Hp) (acc : List PyData) : Prop := ∃ xs, Step W D1 H1 D2 H2 ∧ D2 L = none ∧ H2 L = some (.lst xs) ∧ DqA K D2 xs acc
  let out (i : Nat) : List PyData := (ds'.take i).flatMap fun d => (inn d).map (f d)
  have outs : ∀ {i : Nat} {d : PyData}, ds'[i]? = some d → out (i + 1) = out i ++ (inn d).map (f d) := fun {i d} h => by
    show (ds'.take (i + 1)).flatMap _ = (ds'.take i).flatMap _ ++ _
    rw [List.take_add_one, h, List.flatMap_append]
    simp
  have outle : ∀ {i : Nat} {d : PyData} (j : Nat), ds'[i]? = some d → (out i ++ ((inn d).take j).map (f d)).length ≤ 100000 := fun {i d} j h => by
    refine Nat.le_trans ?_ hn
    have e1 : (ds'.flatMap fun d => (inn d).map (f d)) = out (i + 1) ++ (ds'.drop (i + 1)).flatMap fun d => (inn d).map (f d) := by
      show _ = (ds'.take (i + 1)).flatMap _ ++ _
      rw [← List.flatMap_append, List.take_append_drop]
    rw [e1, outs h, List.length_append, List.length_append, List.length_append, List.length_map, List.length_map, List.length_take]
    omega
  refine ⟨fun i m H2 => m = ds'.length - i ∧ i ≤ ds'.length ∧ ∃ D2, Sm D2 H2 (out i), ⟨_, rfl, Nat.zero_le _, D1, [], .keptH o1 (same_new hL), o1.sub.free hL, upd_same, .nil⟩, ?_⟩
  rintro i m H2 ⟨rfl, hi, D2, xs, s2, d2, l2, q2⟩
  have e2 := e1.step s2
  by_cases hlt : i < ds'.length
  · have hd : ds'[i]? = some ds'[i] := List.getElem?_eq_getElem hlt
    generalize ds'[i] = d at hd
    obtain ⟨hgo, hy⟩ := (wk i D2 H2 e2.ok s2.gro).1 _ hd
    refine Or.inr ⟨hgo, fun H' => i + 1 ≤ ds'.length ∧ ∃ D2, Sm D2 H' (out (i + 1)), fun H' h' => ⟨_, by omega, rfl, h'⟩, fun x H3 y => ?_⟩
    obtain ⟨D3, s3, qx⟩ := hy x H3 y
    obtain ⟨ρ', js, hjs, hlen, hno, hg, hI1, hin⟩ := hs d (List.mem_of_getElem? hd)
    refine hg D0 H0 D3 H3 _ ((e2.step s3).wipe vs hv) x qx _ fun σ4 D4 H4 s4 e4 l4 c4 => ⟨?_, ?_⟩
    · rw [wipe_eq l4 hjs c4, wipe_idem]
    unfold tYes
    show (if true = true then _ else _)
    rw [if_pos rfl]
    refine hI1 D0 H0 D4 H4 σ4 e4 _ fun J1 D5 H5 es s5 wk1 p1 => ?_
    subst p1
    have sA : Step W D2 H2 D5 H5 := (s3.trans e2.ok s4).trans e2.ok s5
    have e5 := e4.step s5
    refine ⟨fun j k H6 => k = (inn d).length - j ∧ j ≤ (inn d).length ∧ ∃ D6, Same D5 D6 ∧ Sm D6 H6 (out i ++ ((inn d).take j).map (f d)), ⟨_, rfl, Nat.zero_le _, D5, Same.refl _, xs, s2.trans o1 sA, sA.new L d2 (by rw [l2]; exact fun z => nomatch z) (by rw [l2]; exact fun _ z => nomatch z), sA.off L _ hwL l2, ?_⟩, ?_⟩
    · rw [List.take_zero, List.map_nil, List.append_nil]
      exact q2.up sA.gro
    rintro j k H6 ⟨rfl, hj, D6, g6, xs6, s6, d6, l6, q6⟩
    have e6 : Env K W D0 H0 D6 H6 σ4 ρ' := e5.off hno (e1.st.trans e.ok0 s6) g6
    by_cases hjl : j < (inn d).length
    · have hz : (inn d)[j]? = some (inn d)[j] := List.getElem?_eq_getElem hjl
      generalize (inn d)[j] = z at hz
      obtain ⟨hgo1, hy1⟩ := (wk1 j D6 H6 e6.ok g6).1 _ hz
      refine Or.inr ⟨hgo1, fun H' => j + 1 ≤ (inn d).length ∧ ∃ D6, Same D5 D6 ∧ Sm D6 H' (out i ++ ((inn d).take (j + 1)).map (f d)), fun H' h' => ⟨_, by omega, rfl, h'⟩, fun x1 H7 y1 => ?_⟩
      obtain ⟨D7, s7, qx1⟩ := hy1 x1 H7 y1
      obtain ⟨ρ2, js2, hjs2, hg1, hte⟩ := hin z (List.mem_of_getElem? hz)
      refine hg1 D0 H0 D7 H7 _ ((e6.step s7).wipe vs1 (fun v h => by rw [hlen]; exact hv1 v h)) x1 qx1 _ fun σ8 D8 H8 s8 e8 l8 c8 => ⟨?_, ?_⟩
      · rw [wipe_eq l8 hjs2 c8, wipe_idem]
      show (if true = true then _ else _)
      rw [if_pos rfl]
      refine hte D0 H0 D8 H8 σ8 e8 _ fun v D9 H9 dv s9 qv pv => ?_
      subst pv
      have sB : Step W D6 H6 D9 H9 := (s7.trans e6.ok s8).trans e6.ok s9
      have l9 : H9 L = some (.lst xs6) := sB.off L _ hwL l6
      have n9 : D9 L = none := sB.new L d6 (by rw [l6]; exact fun z => nomatch z) (by rw [l6]; exact fun _ z => nomatch z)
      have sC : Step W D1 H1 D9 H9 := s6.trans o1 sB
      refine ⟨xs6, l9, ?_, hjl, D9, g6.trans sB.gro, xs6 ++ [v], ⟨sC.gro, fun b u z => ?_, fun b u hw z => ?_, sC.new, ?_⟩, n9, upd_same, ?_⟩
      · rw [q6.len]
        exact Nat.lt_of_le_of_lt (outle j hd) (by decide)
      · rw [upd_ne (fun w => by rw [w, n9] at z; cases z)]
        exact sC.sub b u z
      · rw [upd_ne (fun w => by rw [w, hL] at z; cases z)]
        exact sC.off b u hw z
      · refine W.keep H9 _ sC.inv fun b u hb z => ?_
        rw [upd_ne (fun w => hwL (by rw [← w]; exact hb))]
        exact z
      · rw [List.take_add_one, hz]
        show DqA K D9 (xs6 ++ [v]) (out i ++ ((inn d).take j ++ [z]).map (f d))
        rw [List.map_append, ← List.append_assoc]
        exact (q6.up sB.gro).app (.cons qv .nil)
    · have hje : j = (inn d).length := by omega
      subst hje
      refine Or.inl ⟨(wk1 _ D6 H6 e6.ok g6).2 (Nat.le_refl _), hlt, D6, xs6, s6, d6, l6, ?_⟩
      rw [outs hd]
      rw [List.take_length] at q6
      exact q6
  · have hie : i = ds'.length := by omega
    subst hie
    refine Or.inl ⟨(wk _ D2 H2 e2.ok s2.gro).2 (Nat.le_refl _), q L xs D2 H2 _ (s1.trans e.ok s2) hHL d2 l2 q2 ?_⟩
    show out ds'.length = _
    show (ds'.take ds'.length).flatMap _ = _
    rw [List.take_length]
end
end Dl

/-! ## set(a list of texts) -/
namespace Dl
open PySem PySem.Spec PyProof.Rows L2

/-- each text once, as they come -/
def once (ks : List Str) : List Str := ks.foldl (fun acc k => if k ∈ acc then acc else acc ++ [k]) []
theorem once_snoc (ks : List Str) (k : Str) : once (ks ++ [k]) = if k ∈ once ks then once ks else once ks ++ [k] := by
  unfold once
  rw [List.foldl_append]
  rfl
def firsts (val : Nat → Str) (i : Nat) : List Str := (List.range i).map val
theorem firsts_succ (val : Nat → Str) (i : Nat) : firsts val (i + 1) = firsts val i ++ [val i] := by
  unfold firsts
  rw [List.range_succ, List.map_append]
  rfl
theorem once_le (ks : List Str) : (once ks).length ≤ ks.length := by
  have gen : ∀ (ks acc : List Str), (ks.foldl (fun acc k => if k ∈ acc then acc else acc ++ [k]) acc).length ≤ acc.length + ks.length := fun ks => by
    induction ks with
    | nil => exact fun acc => Nat.le_refl _
    | cons k ks ih =>
      intro acc
      rw [List.foldl_cons, List.length_cons]
      refine Nat.le_trans (ih _) ?_
      split
      · omega
      · rw [List.length_append, List.length_singleton]
        omega
  have := gen ks []
  rw [List.length_nil] at this
  unfold once
  omega
/-- what the first i texts leave in the set at S -/
def HeapK (Pg : Program) (w : World) (h : Heap) (S : Addr) (val : Nat → Str) (i : Nat) : Prop := ∃ (f : Key → Bool) (c : Nat), h.SetOf (mixKind Pg w) S f c ∧ (∀ k, f k = true ↔ ∃ z ∈ once (firsts val i), k = .inr z) ∧ c = (once (firsts val i)).length

section
variable {Pg : Program} {w : World} {A : Around} {R : Result → Shared → Prop} {I : Addr} {fp wr : List Addr} {G : Array GenState → Array GenState → Prop} {n : Nat} {Pv : Nat → Value → Prop} {St : Nat → Shared → Prop}
theorem heap_loopK (W : WalksS Pg w A.in1 I fp wr G n Pv St) (S : Addr) (out : S ∉ fp) (val : Nat → Str) (isV : ∀ i v, Pv i v → ∃ t, v = .str (val i) t) (room : n + 1 < scanBound) :
    ∀ (m i : Nat) (s : Shared), n - i = m → i ≤ n → St i s → HeapK Pg w s.heap S val i → (∀ s', Moved (S :: wr) G s s' → HeapK Pg w s'.heap S val n → R (.ok (.ret .none)) s') →
      codeAny (model Pg w) A (.builtin "set.update.loop" ⟨[.ref S, .ref I], []⟩) R s := by
  have nw : S ∉ wr := fun h => out (W.sub _ h)
  have up : ∀ b ∈ wr, b ∈ S :: wr := fun b hb => List.mem_cons_of_mem _ hb
  have moved : ∀ {s s' : Shared} {i : Nat}, Moved wr G s s' → HeapK Pg w s.heap S val i → HeapK Pg w s'.heap S val i := fun hm ⟨f, c, r, q⟩ => ⟨f, c, setOf_at r fun o e => hm.heap S o nw e, q⟩
  intro m
  induction m with
  | zero =>
    intro i s hm hi st hS k
    obtain rfl : i = n := by omega
    refine codeAny_builtin F.entry_set_update_loop ?_
    rw [Around.under_plainId F.plain_set_update_loop _]
    show wpAny _ A.in1 (pyNext (Value.ref I) >>= _) _ _ s
    refine wpAny_bind (W.done s _ _ st fun s' mv => ?_)
    show wpAny _ A.in1 (ret Value.none) _ _ s'
    exact wpAny_pure (k s' (mv.mono up) (moved mv hS))
  | succ m ih =>
    intro i s hm hi st hS k
    have lt : i < n := by omega
    refine codeAny_builtin F.entry_set_update_loop ?_
    rw [Around.under_plainId F.plain_set_update_loop _]
    show wpAny _ A.in1 (pyNext (Value.ref I) >>= _) _ _ s
    refine wpAny_bind (W.item i s _ _ lt st fun v s' hv st' mv => ?_)
    obtain ⟨t, rfl⟩ := isV i v hv
    obtain ⟨f, c, r, hf, hc⟩ := moved mv hS
    show wpAny _ A.in1 (holding [Value.str (val i) t] (setAdd S (.str (val i) t)) >>= _) _ _ s'
    refine wpAny_bind (wpAny_holding ?_)
    unfold setAdd
    have hkey : (mixKind Pg w).is (.inr (val i)) (.str (val i) t) = true := mixKind_str Pg w (val i) t
    have hcl : c ≤ i := by
      have := once_le (firsts val i)
      unfold firsts at this
      rw [List.length_map, List.length_range] at this
      unfold firsts at hc
      omega
    refine wpAny_holding (wpAny_bind ((mixKind Pg w).pyHash hkey ?_))
    refine wpAny_setAddHashed_of (s := { s' with toks := s'.toks + 1 }) hkey rfl r (by omega) fun h2 sb r2 => ?_
    have here : HeapK Pg w h2 S val (i + 1) := by
      refine ⟨_, _, r2, fun k => ?_, ?_⟩
      · rw [firsts_succ, once_snoc, Bool.or_eq_true, decide_eq_true_eq, hf k]
        constructor
        · rintro (⟨z, hz, e⟩ | e)
          · refine ⟨z, ?_, e⟩
            split
            · exact hz
            · exact List.mem_append_left _ hz
          · refine ⟨val i, ?_, e⟩
            split
            · assumption
            · exact List.mem_append_right _ (by simp)
        · rintro ⟨z, hz, e⟩
          split at hz
          · exact Or.inl ⟨z, hz, e⟩
          · rcases List.mem_append.mp hz with hz | hz
            · exact Or.inl ⟨z, hz, e⟩
            · rw [List.mem_singleton] at hz
              exact Or.inr (by rw [e, hz])
      · rw [firsts_succ, once_snoc]
        by_cases hm : val i ∈ once (firsts val i)
        · rw [if_pos hm, if_pos ((hf _).mpr ⟨_, hm, rfl⟩)]
          exact hc
        · rw [if_neg hm, if_neg (fun z => by
            obtain ⟨y, hy, e⟩ := (hf _).mp z
            cases e
            exact hm hy), List.length_append, hc]
          rfl
    have keepFp : ∀ b ∈ fp, ∀ o, s'.heap.get? b = some o → h2.get? b = some o := fun b hb o e => by
      rw [sb.2 b (fun z => out (by rw [← z]; exact hb))]
      exact e
    refine wpAny_pure ⟨plainId_quiet F.plain_set_update_loop _, ih (i + 1) _ (by omega) lt (W.frame _ s' _ _ st' (Nat.le_succ _) keepFp) here fun s'' mv2 hS2 => ?_⟩
    refine k s'' (Moved.trans W.gtrans ((mv.mono up).then_heap (Nat.le_succ _) fun b o hb e => ?_) mv2) hS2
    rw [sb.2 b (fun z => hb (by rw [z]; exact List.mem_cons_self))]
    exact e
end

section
variable {Pg : Program} {w : World} {A : Around} {E : Value → Shared → Prop} {s : Shared}
set_option maxHeartbeats 3200000 in
theorem call_set_texts {l : Addr} {items : Array Value} {zs : List Str} {Q : Value → Shared → Prop} (hh : A.handled = none) (hl : s.heap.IsList l items) (hi : Vals (zs.map V.str) items.toList) (room : items.size + 1 < scanBound)
    (k : ∀ (g : Heap) (tk : Nat), HeapK Pg w g s.heap.objs.size (fun i => zs.getD i Str.empty) items.size → (∀ b o, b < s.heap.objs.size → s.heap.get? b = some o → g.get? b = some o) → Q (.ref s.heap.objs.size) { s with heap := g, toks := tk }) :
    wpAny (model Pg w) A (call (.type "set") [.ref l]) Q E s := by
  obtain ⟨c, tl, hmro⟩ := F.called_set.mro
  have m1 := F.called_set.made
  have m2 := F.called_set.sub
  refine wpAny_call (codeAny_of_tree ?_)
  show wpAny _ _ (callAny (Value.type "set") _) _ _ _
  refine wpAny_pure ⟨Code.quiet_builtin _ (by decide +kernel), codeAny_builtin F.entry_type_call ?_⟩
  rw [Around.under_plain (weight_type_call_type "set" [Value.ref l] []) rfl]
  have m3 := F.called_set.notType
  have m4 := F.called_set.canCreate
  have m5 := F.typeCall_set_1 (Value.ref l)
  repeat (any_goals (first | assumption | wp_step))
  generalize hfr : (s.heap.push { cls := .type "set", dict := none, data := .set #[] 0 (.fresh 0 0 (!w.params.followText "set-order")) }) = hp0
  have fresh0 : hp0.SetOf (mixKind Pg w) s.heap.objs.size (fun _ => false) 0 := by
    rw [← hfr]
    exact ⟨_, #[], 0, _, Heap.get?_push_size _ rfl, ⟨rfl, rfl, rfl⟩, rfl, (fun e he => by simp at he), (fun k => by simp), (by decide), (by rfl), rfl⟩
  have get0 : hp0.get? s.heap.objs.size = some { cls := .type "set", dict := none, data := .set #[] 0 (.fresh 0 0 (!w.params.followText "set-order")) } := by
    rw [← hfr]
    exact Heap.get?_push_size _ rfl
  have old0 : ∀ b o, s.heap.get? b = some o → hp0.get? b = some o := fun b o e => by
    rw [← hfr]
    exact Heap.get?_push_of_some _ e
  have size0 : hp0.objs.size = s.heap.objs.size + 1 := by
    rw [← hfr]
    exact Heap.size_push ..
  refine codeAny_mono (led_new1 (Value.ref l) (E := E) (Q1 := fun obj s1 => obj = .ref s.heap.objs.size ∧ s1 = { s with heap := hp0 }) ⟨rfl, by rw [hfr]⟩) fun r s1 hr => ?_
  cases r with
  | error e => exact hr
  | ok fl =>
    cases fl with
    | ret obj =>
      obtain ⟨rfl, rfl⟩ := hr
      have hT : Shared.TypeIs { s with heap := hp0 } (.ref s.heap.objs.size) "set" := ⟨_, get0, rfl⟩
      have i1 := F.called_set.init.lookup
      have i2 := F.called_set.init.bind (Value.ref s.heap.objs.size)
      repeat (any_goals (first | assumption | wp_step))
      refine codeAny_mono (codeAny_call_builtin (R := wants (fun r s2 => r = .none ∧ ∃ g tk, s2 = { s with heap := g, toks := tk } ∧ HeapK Pg w g s.heap.objs.size (fun i => zs.getD i Str.empty) items.size ∧
          (∀ b o, b < s.heap.objs.size → s.heap.get? b = some o → g.get? b = some o)) E) F.called_set.init.plain F.entry_set_init (check_set_init_1 hT ?_)) fun r2 s2 hr2 => ?_
      · obtain ⟨ol, hol, hcl, nl, hdl⟩ := hl
        obtain ⟨ocls, odict, odata, oslots⟩ := ol
        simp only at hcl hdl
        subst hcl
        subst hdl
        have hol' : hp0.get? l = some { cls := .type "list", dict := odict, data := .seq items nl, slots := oslots } := old0 _ _ hol
        have q1 := F.sub_list_set
        have q2 := F.sub_list_frozenset
        have q3 : (Value.type "list" == Value.type "dict") = false := by decide
        have isL : hp0.IsList l items := ⟨_, hol', rfl, nl, rfl⟩
        unfold Builtin.«set.__init__»
        unfold noKeywords
        unfold Builtin.Frozenset.updateFrom
        generalize hPI : pyIter = PI
        wp_walk
        subst hPI
        refine wpAny_pyIter_list isL (wpAny_bind (wpAny_runValue ?_))
        have lS : l < s.heap.objs.size := Heap.lt_size hol
        have h3 : A.in1.in1.in1.handled = none := by simp [hh]
        have apart : l ≠ hp0.objs.size := by
          rw [size0]
          exact Nat.ne_of_lt (Nat.lt_succ_of_lt lS)
        have outS : s.heap.objs.size ∉ [hp0.objs.size, l] := by
          rw [size0]
          simp only [List.mem_cons, List.not_mem_nil, or_false, not_or]
          exact ⟨Nat.ne_of_lt (Nat.lt_succ_self _), Nat.ne_of_gt lS⟩
        have isV : ∀ (i : Nat) (v : Value), items[i]? = some v → ∃ t, v = .str ((fun i => zs.getD i Str.empty) i) t := fun i v hv => by
          have hv2 : items.toList[i]? = some v := by rw [Array.getElem?_toList]; exact hv
          have hlt : i < zs.length := by
            have h1 := (List.getElem?_eq_some_iff.mp hv2).1
            have h2 := hi.length
            rw [List.length_map] at h2
            omega
          obtain ⟨u, hu, ru⟩ := hi.get (i := i) (x := V.str zs[i]) (by rw [List.getElem?_map, List.getElem?_eq_getElem hlt]; rfl)
          rw [hv2] at hu
          cases hu
          obtain ⟨t, e⟩ := ru
          refine ⟨t, ?_⟩
          rw [e]
          show Value.str zs[i] t = Value.str (zs.getD i Str.empty) t
          rw [List.getD_eq_getElem?_getD, List.getElem?_eq_getElem hlt]
          rfl
        refine heap_loopK ((PySem.Walks.list h3 _ l apart items).toS) s.heap.objs.size outS (fun i => zs.getD i Str.empty) isV room (items.size - 0) 0 _ (by omega) (Nat.zero_le _) ⟨⟨_, Heap.get?_push_size _ rfl, rfl, rfl⟩, isL.push _⟩ ?_ ?_
        · refine ⟨fun _ => false, 0, setOf_at fresh0 fun o e => Heap.get?_push_of_some _ e, fun k => ?_, rfl⟩
          constructor
          · intro z
            cases z
          · rintro ⟨z, hz, _⟩
            cases hz
        · intro s' hm hS'
          obtain ⟨g, gs, dr, tk, os⟩ := s'
          have e1 : gs = s.gens := hm.gens
          have e2 : dr = s.drawn := hm.drawn
          have e3 : os = s.os := hm.os
          subst e1
          subst e2
          subst e3
          show wpAny _ _ _ _ _ _
          refine wpAny_pure ?_
          show wpAny _ _ (ret Value.none) _ _ _
          refine wpAny_pure ⟨rfl, g, tk, rfl, hS', fun b o hb e => ?_⟩
          refine hm.heap b o ?_ (Heap.get?_push_of_some _ (old0 b o e))
          simp only [List.mem_cons, List.not_mem_nil, or_false, not_or]
          exact ⟨Nat.ne_of_lt hb, by rw [size0]; exact Nat.ne_of_lt (Nat.lt_succ_of_lt hb)⟩
      · cases r2 with
        | error e => exact hr2
        | ok fl2 =>
          cases fl2 with
          | ret r =>
            obtain ⟨rfl, g, tk, rfl, hS', hk'⟩ := hr2
            repeat (any_goals (first | assumption | wp_step))
            exact k _ _ hS' hk'
          | _ => exact hr2.elim
    | _ => exact hr.elim
end


theorem firsts_all (zs : List Str) : firsts (fun i => zs.getD i Str.empty) zs.length = zs := by
  unfold firsts
  refine List.ext_getElem? fun i => ?_
  rw [List.getElem?_map]
  by_cases hi : i < zs.length
  · rw [List.getElem?_range hi, List.getElem?_eq_getElem hi]
    show some (zs.getD i Str.empty) = _
    rw [List.getD_eq_getElem?_getD, List.getElem?_eq_getElem hi]
    rfl
  · rw [List.getElem?_eq_none (by rw [List.length_range]; omega), List.getElem?_eq_none (by omega)]
    rfl
/-- set(xs), xs a list of texts -/
def rSetS (K : PySem.W.Frag) (P : Program) (w : World) : List V → Hp → VK → Prop := fun xs H Q => ∃ (l : Addr) (zs : List Str), xs = [.ref l] ∧ SqL K H l (zs.map V.str) ∧ zs.length ≤ 4000 ∧
  ∀ (p : Addr) (f : Key → Bool), H p = none → Q (.ref p) (upd H p (SetK P w p f (once zs).length))
theorem call_setS {X : Cx} (hc : X.calm = true) : CallR X (.type "set") (rSetS X.K X.prog X.w) := by
  intro pins s σ H xs us Q I r h
  obtain ⟨l, zs, rfl, hq, hz, q⟩ := h
  obtain ⟨u, rfl, ru⟩ := vals1 r
  cases ru
  obtain ⟨its, rv, pl, _⟩ := I.list hq
  have len : its.toArray.size = zs.length := by rw [List.size_toArray, ← rv.length, List.length_map]
  refine call_set_texts (I.ok.hd hc) pl.isList (zs := zs) (by simpa using rv) (by rw [len]; unfold scanBound; omega) fun g tk hS hk => ?_
  obtain ⟨f, c, rS, hf, hcl⟩ := hS
  rw [len, firsts_all] at hcl
  subst hcl
  have J : Inv X pins σ (upd H s.heap.objs.size (SetK X.prog X.w s.heap.objs.size f (once zs).length)) { s with heap := g, toks := tk } := I.laid (t' := tk) (fun b o e => hk b o (Heap.lt_size e) e) (Nat.le_refl _) (setK_new rS)
  exact ⟨.ref s.heap.objs.size, _, J, rfl, q _ f (I.hok.fresh (Nat.le_refl _))⟩
/-- len(a set) -/
def rLenK (P : Program) (w : World) : List V → Hp → VK → Prop := fun xs H Q => ∃ (a : Addr) (S : Key → Bool) (n : Nat), xs = [.ref a] ∧ H a = some (SetK P w a S n) ∧ n < 2 ^ 62 ∧ Q (.int (n : Nat)) H
theorem call_lenK {X : Cx} : CallR X (.builtin "len") (rLenK X.prog X.w) := by
  intro pins s σ H xs us Q I r h
  obtain ⟨a, S, n, rfl, ha, hn, q⟩ := h
  obtain ⟨u, rfl, ru⟩ := vals1 r
  cases ru
  obtain ⟨o, es, ep, t, ho, hex, hd, _, _, _, hf, hsz⟩ := setK_get I ha
  exact call_len_set ho hex hd hf (by rw [hsz]; omega) ⟨.int n, H, I.tok _, ⟨_, by rw [hsz]⟩, q⟩
section
variable {K : PySem.W.Frag} {W : Fx} {ρ : List Sk} {te : TE} {P : Program} {w : World}
/-- len(set(xs)) -/
theorem ev_lenSetS {zs : List Str} (h : EvB K W te ρ (· = zs.map .str)) (hz : zs.length ≤ 4000) : EvD K W (tCB (rLenK P w) (tCons (tCB (rSetS K P w) (tCons te tNil)) tNil)) ρ (.int ((once zs).length : Int)) := fun D0 H0 D H σ e Q q =>
  h D0 H0 D H σ e _ fun l xs D1 H1 ds s1 hl q1 e1 => by
    subst e1
    have o1 := s1.ok e.ok
    have ex := q1.isStrs
    subst ex
    refine ⟨l, zs, rfl, hl, hz, fun a f ha => ?_⟩
    have s2 : Step W D H D1 (upd H1 a (SetK P w a f (once zs).length)) := s1.trans e.ok (.keptH o1 (same_new ha))
    have := once_le zs
    exact ⟨a, f, _, rfl, upd_same, by omega, q _ D1 _ _ s2 (.int _) rfl⟩
def rLeS : R2 := fun x y H Q => ∃ i j, x = .str i ∧ y = .str j ∧ Q (.bl (!decide (j.cps.toList < i.cps.toList))) H
theorem rd_leS {a b : Str} : RD K W rLeS (.str a) (.str b) (· = .bool (!decide (b.cps.toList < a.cps.toList))) := fun D H x y o hx hy Q q => by
  cases hx
  cases hy
  exact ⟨_, _, rfl, rfl, q _ D H _ (.refl o) (.bl _) rfl⟩
end
end Dl

/-! ## A dict of one's own: its keys in order, its items -/
namespace Dl
open PySem PySem.Spec PyProof.Rows L2

theorem kD_dq {K : PySem.W.Frag} {D : Hp} {v : V} : ∀ {k : Key}, Dq K D v (kD k) → v = kV k
  | .inl i, h => by
    cases h
    rfl
  | .inr z, h => by
    cases h
    rfl
instance decMemKey (k : Key) (ks : List Key) : Decidable (k ∈ ks) := decidable_of_iff ((ks.any fun j => decide (j = k)) = true) (by
  rw [List.any_eq_true]
  exact ⟨fun ⟨j, h1, h2⟩ => by rw [← of_decide_eq_true h2]; exact h1, fun h => ⟨k, h, decide_eq_true rfl⟩⟩)
def putKs (ks : List Key) (k : Key) : List Key := if k ∈ ks then ks else ks ++ [k]
def putDs {α : Type} (ks : List Key) (ds : List α) (k : Key) (d : α) : List α := if k ∈ ks then List.zipWith (fun j e => if j = k then d else e) ks ds else ds ++ [d]
theorem putKs_len (ks : List Key) (k : Key) : (putKs ks k).length ≤ ks.length + 1 := by
  unfold putKs
  split
  · omega
  · rw [List.length_append]
    exact Nat.le_refl _
theorem mem_putKs {ks : List Key} {k j : Key} : j ∈ putKs ks k ↔ j ∈ ks ∨ j = k := by
  unfold putKs
  split
  · rename_i h
    exact ⟨Or.inl, fun z => z.elim id fun e => by rw [e]; exact h⟩
  · rw [List.mem_append, List.mem_singleton]
theorem nd_putKs {ks : List Key} {k : Key} (h : ks.Nodup) : (putKs ks k).Nodup := by
  unfold putKs
  split
  · exact h
  · rename_i hk
    rw [List.nodup_append]
    exact ⟨h, by simp, fun a ha b hb z => hk (by rw [List.mem_singleton] at hb; rw [← hb, ← z]; exact ha)⟩
theorem putDs_len {α : Type} {ks : List Key} {ds : List α} {k : Key} {d : α} (h : ks.length = ds.length) : (putKs ks k).length = (putDs ks ds k d).length := by
  unfold putKs putDs
  split
  · rw [List.length_zipWith]
    omega
  · rw [List.length_append, List.length_append, h]
    rfl
theorem zip_put : ∀ (ks : List Key) (xs : List V) (k : Key) (v : V), ks.length = xs.length → putK (ks.zip xs) k v = (putKs ks k).zip (putDs ks xs k v) := fun ks xs k v hl => by
  have any : ((ks.zip xs).any fun kv => decide (kv.1 = k)) = decide (k ∈ ks) := by
    rw [Bool.eq_iff_iff, List.any_eq_true, decide_eq_true_eq]
    constructor
    · rintro ⟨⟨j, x⟩, h1, h2⟩
      have : j = k := of_decide_eq_true h2
      rw [← this]
      exact (List.of_mem_zip h1).1
    · intro h
      obtain ⟨i, hi⟩ := List.getElem?_of_mem h
      have hx : i < xs.length := by
        have := (List.getElem?_eq_some_iff.mp hi).1
        omega
      refine ⟨(k, xs[i]), List.mem_of_getElem? (i := i) ?_, decide_eq_true rfl⟩
      rw [List.getElem?_zip_eq_some]
      exact ⟨hi, List.getElem?_eq_getElem hx⟩
  unfold putK putKs putDs
  rw [any]
  by_cases hk : k ∈ ks
  · rw [if_pos (decide_eq_true hk), if_pos hk, if_pos hk]
    clear any hk
    induction ks generalizing xs with
    | nil => rfl
    | cons j ks ih =>
      cases xs with
      | nil => cases hl
      | cons x xs =>
        rw [List.zip_cons_cons, List.map_cons, List.zipWith_cons_cons, List.zip_cons_cons, ih xs (by simpa using hl)]
        congr 1
        by_cases h : j = k
        · rw [if_pos h, if_pos h]
        · rw [if_neg h, if_neg h]
  · rw [if_neg (fun z => hk (of_decide_eq_true z)), if_neg hk, if_neg hk, List.zip_append hl]
    rfl
theorem dqA_put {K : PySem.W.Frag} {D : Hp} {v : V} {d : PyData} (k : Key) (q : Dq K D v d) : ∀ {ks : List Key} {xs : List V} {ds : List PyData}, DqA K D xs ds → DqA K D (List.zipWith (fun j e => if j = k then v else e) ks xs) (List.zipWith (fun j e => if j = k then d else e) ks ds)
  | [], _, _, _ => by
    rw [List.zipWith_nil_left, List.zipWith_nil_left]
    exact .nil
  | j :: ks, _, _, .nil => by
    rw [List.zipWith_nil_right, List.zipWith_nil_right]
    exact .nil
  | j :: ks, _, _, .cons h1 h2 => by
    rw [List.zipWith_cons_cons, List.zipWith_cons_cons]
    refine .cons ?_ (dqA_put k q h2)
    by_cases h : j = k
    · rw [if_pos h, if_pos h]
      exact q
    · rw [if_neg h, if_neg h]
      exact h1

section
variable {K : PySem.W.Frag} {W : Fx} {EX : Hp → Prop} {ρ : List Sk} {ta tb tc te tk : TE} {tr : TS} {O : Out} {P P1 P2 : PyData → Prop} {ks : List Key} {ds : List PyData}
/-- a new own object -/
def EvO1 (K : PySem.W.Frag) (W : Fx) (te : TE) (ρ : List Sk) (s : Shp) (P : List PyData → Prop) : Prop := ∀ D0 H0 D H σ, Env K W D0 H0 D H σ ρ → ∀ Q : VK,
  (∀ l xs D' H' ds, Step W D H D' H' → H l = none → D' l = none → H' l = some (s.ho xs) → DqA K D' xs ds → P ds → Q (.ref l) H') → te σ H Q
theorem evo_dnew : EvO1 K W tDNewK ρ (.dK []) (· = []) := fun D0 H0 D H σ e Q q => fun p hp =>
  q p [] D _ [] (.keptH e.ok (same_new hp)) hp (e.ok.sub.free hp) upd_same .nil rfl
theorem EvF.o1 {PA : List PyData → Prop} (h : EvF K W te ρ PA) : EvO1 K W te ρ .lst PA := h
theorem st_setO {i : Nat} {s : Shp} {PA : List PyData → Prop} (hi : i < ρ.length) (h : EvO1 K W te ρ s PA) (k : ∀ ds, PA ds → StG K W EX tr (ρ.set i (.ob s ds)) O) : StG K W EX (tSeq (tAsg te (gName i)) tr) ρ O := fun D0 H0 D H σ Dn e kn kb kc kr kx =>
  h D0 H0 D H σ e _ fun l xs D1 H1 ds s1 hn hd hl q p => by
    refine k ds p D0 H0 D1 H1 _ Dn (e.new s1 hn hd hl q hi (e.step s1) hi fun j t es _ h => ⟨h, rfl⟩) (fun a b c x g2 => kn a b c x (s1.gro.trans g2)) (fun a b c x g2 => kb a b c x (s1.gro.trans g2)) (fun a b c x g2 => kc a b c x (s1.gro.trans g2)) kr kx
/-- a, b, c = .., {}, .. -/
theorem st_par3O {i j m : Nat} {s : Shp} {PL : List PyData → Prop} (hi : i < ρ.length) (hj : j < ρ.length) (hm : m < ρ.length) (ha : EvN K W ta ρ P1) (hb : EvO1 K W tb ρ s PL) (hc : EvN K W tc ρ P2) (hij : i ≠ j) (hjm : j ≠ m) (k : ∀ d1 ds d2, P1 d1 → PL ds → P2 d2 → StG K W EX tr (((ρ.set i (.dat d1)).set j (.ob s ds)).set m (.dat d2)) O) :
    StG K W EX (tSeq (tPar3 i j m (tCons ta (tCons tb (tCons tc tNil)))) tr) ρ O := fun D0 H0 D H σ Dn e kn kb kc kr kx =>
  ha D0 H0 D H σ e _ fun v D1 H1 d s1 q1 p1 => hb D0 H0 D1 H1 σ (e.step s1) _ fun l xs D2 H2 ds s2 hn hd hl q2 p2 => hc D0 H0 D2 H2 σ ((e.step s1).step s2) _ fun v3 D3 H3 d3 s3 q3 p3 => by
    have g : Same D D3 := (s1.gro.trans s2.gro).trans s3.gro
    refine ⟨v, .ref l, v3, rfl, ?_⟩
    have e1 := e.step s1
    have hw : ¬ W.adr l := fun hw => W.has H1 l e1.st.inv hw hn
    have s23 := s2.trans e1.ok s3
    have e3 := (e1.step s23).set hi (q1.up s23.gro)
    have e4 : Env K W D0 H0 D3 H3 ((σ.set i (some v)).set j (some (.ref l))) ((ρ.set i (.dat d)).set j (.ob s ds)) := e1.new s23 hn (s3.new l hd (by rw [hl]; exact fun z => nomatch z) (fun ys => by rw [hl]; exact Shp.noT _ _ ys)) (s3.off l _ hw hl) (q2.up s3.gro) hj e3 (by rw [List.length_set]; exact hj) fun x t es hx h => by
      by_cases hix : i = x
      · subst hix
        rw [List.getElem?_set_self hi] at h
        cases h
      · rw [List.getElem?_set_ne hix] at h
        exact ⟨h, by rw [List.getElem?_set_ne hix]⟩
    have e5 := e4.set (i := m) (by rw [List.length_set, List.length_set]; exact hm) q3
    exact k d ds d3 p1 p2 p3 D0 H0 D3 H3 _ Dn e5 (fun a b c x g2 => kn a b c x (g.trans g2)) (fun a b c x g2 => kb a b c x (g.trans g2)) (fun a b c x g2 => kc a b c x (g.trans g2)) kr kx
/-- xs[k] = v -/
theorem st_dput {i : Nat} {k : Key} (hρ : ρ[i]? = some (.kd ks ds)) (h : EvN K W te ρ P) (hk : EvD K W tk ρ (kD k)) (hl : ks.length = ds.length) (hz : ks.length < sizeLine) (kk : ∀ d, P d → StG K W EX tr (ρ.set i (.kd (putKs ks k) (putDs ks ds k d))) O) :
    StG K W EX (tSeq (tAsg te (gSub (tVar i) tk rSetD)) tr) ρ O := fun D0 H0 D H σ Dn e kn kb kc kr kx =>
  h D0 H0 D H σ e _ fun v D1 H1 d s1 q1 p1 => by
    have e1 := e.step s1
    obtain ⟨o, q0, l, xs, q2, q3, q4, q5, q6, q7⟩ := e1.slot i _ hρ
    subst q2
    refine ⟨.ref l, q0, ?_⟩
    refine hk D0 H0 D1 H1 σ e1 _ fun v2 D2 H2 d2 s2 y2 p2 => ?_
    subst p2
    have hv2 := kD_dq y2
    have e2 := e1.step s2
    obtain ⟨o', r1, l', xs', r2, r3, r4, r5, r6, r7⟩ := e2.slot i _ hρ
    rw [q0] at r1
    cases r1
    cases r2
    have hlx : ks.length = xs'.length := by rw [r7.len]; exact hl
    refine ⟨l, _, rfl, Or.inl ⟨ks.zip xs', k, r6, hv2, ?_, rfl⟩, ?_⟩
    · rw [List.length_zip]
      omega
    have g := s1.gro.trans s2.gro
    rw [zip_put ks xs' k v hlx]
    refine kk d p1 D0 H0 D2 _ σ Dn (e2.writeO (t := .dK (putKs ks k)) hρ q0 (?_ : DqA K D2 (putDs ks xs' k v) (putDs ks ds k d))) (fun a b c x g2 => kn a b c x (g.trans g2)) (fun a b c x g2 => kb a b c x (g.trans g2)) (fun a b c x g2 => kc a b c x (g.trans g2)) kr kx
    unfold putDs
    split
    · exact dqA_put k (q1.up s2.gro) r7
    · exact r7.app (.cons (q1.up s2.gro) .nil)
/-- len of it -/
theorem ev_lenKd {i : Nat} (hρ : ρ[i]? = some (.kd ks ds)) (hl : ks.length = ds.length) : EvD K W (tCB (fun xs H Q => ∃ a kvs, xs = [V.ref a] ∧ H a = some (HO.dK kvs) ∧ Q (V.int ↑kvs.length) H) (tCons (tVar i) tNil)) ρ (.int ks.length) := fun D0 H0 D H σ e Q q => by
  obtain ⟨o, q0, l, xs, q2, q3, q4, q5, q6, q7⟩ := e.slot i _ hρ
  subst q2
  refine ⟨_, q0, l, _, rfl, q6, ?_⟩
  have : (ks.zip xs).length = ks.length := by
    rw [List.length_zip, q7.len, ← hl]
    exact Nat.min_self _
  rw [this]
  exact q _ D H _ (.refl e.ok) (.int _) rfl
end
end Dl

/-! ## repr of data in which a dict without items may stand -/
namespace Dl
open PySem PySem.Spec PyProof.Rows L2
/-- the modules' own dict stands at its address -/
def SysAt (h : Heap) : Prop := ∃ mm, h.Ns sysModules mm
theorem sys_of {h : Heap} (x : h.NoSeer) : SysAt h := by
  obtain ⟨mm, q, _⟩ := x.mods
  exact ⟨mm, q⟩

section
variable {X : Cx} {pins : List (Addr × Obj)} {σ : L2.St} {H : Hp} {s : Shared}
theorem sys_there (I : Inv X pins σ H s) (hs : SysAt X.base) : ∃ o es ep, s.heap.get? sysModules = some o ∧ o.data = .dict es ep := by
  obtain ⟨mm, o, es, ep, e, d, _⟩ := hs
  obtain ⟨e1, e2⟩ := I.ok.bs _ o e
  by_cases hf : sysModules ∈ X.fs
  · obtain ⟨sl, q⟩ := I.base.slot _ o e1 e2 hf (I.ok.noex _ o e)
    exact ⟨_, es, ep, q, d⟩
  · exact ⟨o, es, ep, I.base.keep _ o e1 e2 hf (I.ok.noex _ o e), d⟩
mutual
theorem Dq.readsS (I : Inv X pins σ H s) (hs : SysAt X.base) : ∀ {d : PyData} {v : V} (u : Value), Dq X.K H v d → RelV v u → ∃ as, Reads s.heap u d as ∧ sysModules ∉ as
  | _, _, _, .non, r => by
    cases (show _ = Value.none from r)
    exact ⟨_, Reads.none, List.not_mem_nil⟩
  | _, _, _, .bl b, r => by
    cases (show _ = Value.bool b from r)
    exact ⟨_, Reads.bool b, List.not_mem_nil⟩
  | _, _, _, .int i, r => by
    obtain ⟨t, rfl⟩ := r
    exact ⟨_, Reads.int i t, List.not_mem_nil⟩
  | _, _, _, .str x, r => by
    obtain ⟨t, rfl⟩ := r
    exact ⟨_, Reads.str x t, List.not_mem_nil⟩
  | _, _, _, .lst h1 h2, r => by
    cases r
    obtain ⟨its, rv, ⟨o, n, e1, e2, _, e3⟩, _⟩ := I.list h1
    obtain ⟨as, q, hn⟩ := DqA.readsS I hs its h2 rv
    refine ⟨_, Reads.list e1 e2 e3 q, fun z => ?_⟩
    rcases List.mem_cons.mp z with z | z
    · obtain ⟨o', es, ep, g1, g2⟩ := sys_there I hs
      rw [z, e1] at g1
      cases g1
      rw [e3] at g2
      cases g2
    · exact hn z
  | _, _, _, .tup h1 h2, r => by
    cases r
    obtain ⟨its, rv, ⟨o, e1, e2, n, e3⟩, _⟩ := I.tuple h1
    obtain ⟨as, q, hn⟩ := DqA.readsS I hs its h2 rv
    exact ⟨_, Reads.tuple e1 e2 e3 q, hn⟩
  | _, _, _, @Dq.dic _ _ a _ _ _ h1 hl h2, r => by
    cases r
    obtain ⟨_, hne, vs, kv, o, es, ep, e1, ⟨c1, _, _⟩, e2, _, pr, _⟩ := dkG_rd I.hok h1.rd
    obtain ⟨us, e3, e4, rv⟩ := kv_zip hl kv
    subst e3
    obtain ⟨as, q, hn⟩ := DqA.readsS I hs us h2 rv
    obtain ⟨bs, q2, eb⟩ := keys_read (h := s.heap) e4 pr
    subst eb
    have lk := h2.len
    refine ⟨_, Reads.dict e1 c1 e2 (as := []) (bs := as) ?_ ?_, fun z => ?_⟩
    · rw [List.map_fst_zip (by rw [List.length_map]; omega)]
      exact q2
    · rw [vals_pairs e4 pr, List.map_snd_zip (by rw [List.length_map]; omega)]
      exact q
    · have z : sysModules = a ∨ sysModules ∈ as := by simpa using z
      rcases z with z | z
      · rw [← z] at hne
        exact absurd hne (by decide)
      · exact hn z
  | _, _, _, @Dq.dicT _ _ a _ _ _ h1 hl h2, r => by
    cases r
    obtain ⟨_, hne, zs, kt, o, es, ep, e1, ⟨c1, _, _⟩, e2, e3, _, _⟩ := dtG_rd I.hok h1.rd
    obtain ⟨q1, rv⟩ := keysT_read I hl kt
    obtain ⟨as, q, hn⟩ := DqA.readsS I hs _ h2 rv
    have lk := h2.len
    refine ⟨_, Reads.dict e1 c1 e2 (as := []) (bs := as) ?_ ?_, fun z => ?_⟩
    · rw [List.map_fst_zip (by rw [List.length_map]; omega), e3, List.map_map]
      exact q1
    · rw [e3, List.map_map, List.map_snd_zip (by rw [List.length_map]; omega)]
      exact q
    · have z : sysModules = a ∨ sysModules ∈ as := by simpa using z
      rcases z with z | z
      · rw [← z] at hne
        exact absurd hne (by decide)
      · exact hn z
theorem DqA.readsS (I : Inv X pins σ H s) (hs : SysAt X.base) : ∀ {ds : List PyData} {vs : List V} (us : List Value), DqA X.K H vs ds → Vals vs us → ∃ as, ReadsAll s.heap us ds as ∧ sysModules ∉ as
  | _, _, _, .nil, r => by
    cases r
    exact ⟨_, ReadsAll.nil, List.not_mem_nil⟩
  | _, _, _, .cons h1 h2, r => by
    cases r with
    | cons r1 r2 =>
      obtain ⟨as, q1, n1⟩ := Dq.readsS I hs _ h1 r1
      obtain ⟨bs, q2, n2⟩ := DqA.readsS I hs _ h2 r2
      exact ⟨_, ReadsAll.cons q1 q2, fun z => (List.mem_append.mp z).elim n1 n2⟩
end
end

section
variable {X : Cx}
/-- repr of data, where no guard stands -/
def rReprD (K : PySem.W.Frag) : List V → Hp → VK → Prop := fun xs H Q => ∃ x d, xs = [x] ∧ Dq K H x d ∧ d.showable = true ∧ (∀ kvs, d ≠ .dict kvs) ∧ d.depth ≤ 60 ∧
  d.shown.length ≤ sizeLine ∧ Q (.str d.shown) H
theorem call_reprD (hg : X.A.guards = some []) (hu : X.A.units + 64 < cLine) (hs : SysAt X.base) : CallR X (.builtin "repr") (rReprD X.K) := by
  intro pins s σ H xs us Q I r h
  obtain ⟨x, d, rfl, hd, h1, h2, h3, h4, q⟩ := h
  obtain ⟨u, rfl, ru⟩ := vals1 r
  obtain ⟨as, rd, hn⟩ := Dq.readsS I hs u hd ru
  cases d with
  | none =>
    cases hd
    cases (show u = Value.none from ru)
    exact PySem.P.repr_of_none ⟨.str "None", H, I.tok _, ⟨_, rfl⟩, q⟩
  | bool b =>
    cases hd
    cases (show u = Value.bool b from ru)
    exact PySem.P.repr_of_bool ⟨.str (if b then "True" else "False"), H, I.tok _, ⟨_, rfl⟩, q⟩
  | int i =>
    cases hd
    obtain ⟨t, rfl⟩ := ru
    exact PySem.P.repr_of_int (of_decide_eq_true h1) ⟨.str (toString i), H, I.tok _, ⟨_, rfl⟩, q⟩
  | str y =>
    cases hd
    obtain ⟨t, rfl⟩ := ru
    exact PySem.P.repr_of_str ⟨.str (reprText y), H, I.tok _, ⟨_, rfl⟩, q⟩ h4
  | list ds =>
    cases hd
    cases ru
    refine repr_of_reads' rd h1 (fun _ => hn) hg (by omega) (fun _ _ e => e) (fun h' u tk hk => ?_) h4
    exact ⟨.str _, H, I.kept hk, ⟨_, rfl⟩, q⟩
  | tuple ds =>
    cases hd
    cases ru
    refine repr_of_reads' rd h1 (fun _ => hn) hg (by omega) (fun _ _ e => e) (fun h' u tk hk => ?_) h4
    exact ⟨.str _, H, I.kept hk, ⟨_, rfl⟩, q⟩
  | dict kvs => exact absurd rfl (h2 kvs)
end

/-! ### what repr shows, dicts too -/
structure Sd (w p : Nat) (d : PyData) : Prop where
  a : d.showable = true
  c : d.depth ≤ p
  e : d.shown.length ≤ w
theorem Sm.sd {w p : Nat} {d : PyData} (h : Sm w p d) : Sd w p d := ⟨h.a, h.c, h.e⟩
theorem Sd.le {w w' p p' : Nat} {d : PyData} (h : Sd w p d) (hw : w ≤ w') (hp : p ≤ p') : Sd w' p' d := ⟨h.a, Nat.le_trans h.c hp, Nat.le_trans h.e hw⟩
theorem Sd.dict0 : Sd 2 1 (.dict []) := ⟨by decide +kernel, by decide +kernel, by decide +kernel⟩
theorem all_sd {w p : Nat} : ∀ (ds : List PyData), (∀ d ∈ ds, Sd w p d) → PyData.showableAll ds = true ∧ PyData.depthAll ds ≤ p
  | [], _ => by simp [PyData.showableAll, PyData.depthAll]
  | d :: ds, h => by
    obtain ⟨h1, h3⟩ := all_sd ds fun x hx => h x (List.mem_cons_of_mem _ hx)
    have h4 := h d List.mem_cons_self
    refine ⟨by simp [PyData.showableAll, h4.a, h1], ?_⟩
    have := h4.c
    simp only [PyData.depthAll]
    omega
theorem Sd.list {w p n : Nat} {ds : List PyData} (h : ∀ d ∈ ds, Sd w p d) (hn : ds.length ≤ n) : Sd (4 + n * (w + 2)) (p + 1) (.list ds) := by
  obtain ⟨h1, h3⟩ := all_sd ds h
  refine ⟨by simp only [PyData.showable]; exact h1, by simp only [PyData.depth]; omega, ?_⟩
  rw [PyData.shown_list, shownAll_map]
  have h4 := join_le (w := w) (ds.map PyData.shown) fun t ht => by
    obtain ⟨d, hd, e⟩ := List.mem_map.mp ht
    rw [← e]
    exact (h d hd).e
  have h5 : (Str.ofString "[").length = 1 := by decide +kernel
  have h6 : (Str.ofString "]").length = 1 := by decide +kernel
  rw [Str.length_append, Str.length_append, h5, h6]
  rw [List.length_map] at h4
  have h7 : ds.length * (w + 2) ≤ n * (w + 2) := Nat.mul_le_mul_right _ hn
  omega
theorem Sd.tuple {w p n : Nat} {ds : List PyData} (h : ∀ d ∈ ds, Sd w p d) (hn : ds.length ≤ n) : Sd (4 + n * (w + 2)) (p + 1) (.tuple ds) := by
  obtain ⟨h1, h3⟩ := all_sd ds h
  refine ⟨by simp only [PyData.showable]; exact h1, by simp only [PyData.depth]; omega, ?_⟩
  rw [PyData.shown_tuple, shownAll_map]
  have h4 := join_le (w := w) (ds.map PyData.shown) fun t ht => by
    obtain ⟨d, hd, e⟩ := List.mem_map.mp ht
    rw [← e]
    exact (h d hd).e
  have h5 : (Str.ofString "(").length = 1 := by decide +kernel
  have h6 : (Str.ofString (if (ds.length == 1) = true then ",)" else ")")).length ≤ 2 := by
    split
    · exact (by decide +kernel)
    · exact (by decide +kernel)
  rw [Str.length_append, Str.length_append, h5]
  rw [List.length_map] at h4
  have h7 : ds.length * (w + 2) ≤ n * (w + 2) := Nat.mul_le_mul_right _ hn
  omega
theorem rc_reprD {K : PySem.W.Frag} {W : Fx} {d : PyData} {w p : Nat} (h : Sd w p d) (hn : ∀ kvs, d ≠ .dict kvs) (hp : p ≤ 60) (hw : w ≤ 16777216) : RC K W (rReprD K) [d] (· = .str d.shown) := fun D H vs o hv Q q => by
  cases hv with
  | cons hx hv =>
    cases hv
    exact ⟨_, d, rfl, hx.up o.sub, h.a, hn, Nat.le_trans h.c hp, by rw [sizeLine_eq]; exact Nat.le_trans h.e hw, q _ D H _ (.refl o) (.str _) rfl⟩

/-! ### the law's own head, where the modules' dict stands -/
section
variable {P : Program} {w : World} {K : PySem.W.Frag} {mg mb : Str → Option Value} {C : CXT} {k : Nat} {fa a : Addr} {fd : FuncData}
  {x : Str} {sp : Sp} {s1 : Shared} {vs : List Value} {ns : List Int}

/-- the abstract heap at the law's entry: the script, locked, if it is none of the module's own -/
theorem headS_core (KX : K.In s1.heap) (hns : s1.heap.Ns mainGlobals mg) (hb : s1.heap.Ns builtinsNs mb)
    (hbb : ∀ x : Str, x ≠ "__name__" → mb x = bootBuiltins x) (hlim : s1.heap.NoLimit) (hg : s1.gens = #[])
    (ha : s1.heap.get? a = some { cls := .type "list", data := .seq vs.toArray }) (hr : Room k callerA)
    (hdg : s1.heap.NoDigits) (hsy : SysAt s1.heap)
    (F : ∀ base : Heap, K.In base → base.Ns mainGlobals mg → base.NoDigits → SysAt base → FnG P w K mg base C k fa fd [x] sp)
    (hbind : ∀ (s : Shared) (u : Value), BindsTo s fd ⟨[u], []⟩ [(x, u)])
    (hC : ∀ H e s', C [] H s1 (fun _ _ _ => False) e s' → False)
    (H : Hp) (hO : Only H) (hsp : sp [.ref a] H (fun v _ => v = .bl true) fun _ _ _ => False)
    (hok : HOk P w H s1.heap) (hA : ∀ b, H b ≠ none → b = a ∧ K.lookup b = none) :
    codeAny (model P w) callerA (.call (.ref fa) ⟨[.ref a], []⟩)
      (fun r s' => r = .ok (.ret (.bool true)) ∧ OldK s1.heap s'.heap ∧ s'.os = s1.os ∧ AllBare s'.gens) s1 := by
  have free : ∀ {b : Addr}, (H b ≠ none → False) → H b = none := fun {b} z => by
    cases q : H b with
    | none => rfl
    | some u => exact (z (by rw [q]; exact fun y => nomatch y)).elim
  have nsK : ∀ {b : Addr} {m : Str → Option Value}, s1.heap.Ns b m → (hidT s1.heap H).Ns b m := fun {b m} hm => by
    obtain ⟨o, es, ep, e, d, r⟩ := hm
    refine ⟨o, es, ep, hidT_get e (free fun z => ?_), d, r⟩
    obtain ⟨e1, _⟩ := hA b z
    subst e1
    rw [ha] at e
    cases e
    cases (show Data.seq vs.toArray _ = Data.dict es ep from d)
  have hKb : K.In (hidT s1.heap H) := fun b o e => hidT_get (KX b o e) (free fun z => by
    rw [(hA b z).2] at e
    cases e)
  obtain ⟨mc, l1, l2⟩ := hlim
  have hM : Mod K mg (hidT s1.heap H) := ⟨hKb, nsK hns, ⟨mb, nsK hb, hbb⟩, ⟨mc, nsK l1, l2⟩⟩
  have e0 : Env0 P w K mg (hidT s1.heap H) callerA [] s1 H := by
    refine ⟨rfl, hM, fun b o e => of_hidT e, Nat.le_of_eq (hidT_size _ _), trivial, fun b hb => ?_, hok, .of_eq hg⟩
    cases hb
  obtain ⟨md, g1, g2⟩ := hdg
  have run := (F _ hKb (nsK hns) ⟨md, nsK g1, g2⟩ (by
    obtain ⟨ms, g3⟩ := hsy
    exact ⟨ms, nsK g3⟩)).run callerA [] s1 H ⟨[.ref a], []⟩ [.ref a] [.ref a] _ _ rfl hr e0 (hbind s1 (.ref a)) (.cons rfl .nil) hsp
  refine codeAny_mono run fun r s' h => ?_
  match r, h with
  | .error e, h => exact (hC H e s' h).elim
  | .ok .next, h => exact h.elim
  | .ok .brk, h => exact h.elim
  | .ok .cont, h => exact h.elim
  | .ok (.ret u), h =>
    obtain ⟨v, H', os, bare, un, hok', rv, q⟩ := h
    have q1 : v = .bl true := q
    subst q1
    have q2 : u = Value.bool true := rv
    subst q2
    refine ⟨rfl, OldK.of_keep fun b o e => ?_, os, bare⟩
    cases hO b with
    | inl z => exact un.keep b o e z (fun y => by cases y) (fun y => by cases y)
    | inr z =>
      obtain ⟨ob, xs, z⟩ := z
      have e1 := (hok b _ z).1
      rw [e] at e1
      cases e1
      exact (hok' b _ (un.frzs b o _ z)).1

theorem law_callS (KX : K.In s1.heap) (hns : s1.heap.Ns mainGlobals mg) (hb : s1.heap.Ns builtinsNs mb)
    (hbb : ∀ x : Str, x ≠ "__name__" → mb x = bootBuiltins x) (hlim : s1.heap.NoLimit) (hg : s1.gens = #[])
    (ha : s1.heap.get? a = some { cls := .type "list", data := .seq vs.toArray }) (hi : IntsAre vs ns) (hl : ns.length ≤ sizeLine)
    (hr : Room k callerA)
    (hdg : s1.heap.NoDigits) (hsy : SysAt s1.heap)
    (F : ∀ base : Heap, K.In base → base.Ns mainGlobals mg → base.NoDigits → SysAt base → FnG P w K mg base C k fa fd [x] sp)
    (hbind : ∀ (s : Shared) (u : Value), BindsTo s fd ⟨[u], []⟩ [(x, u)])
    (hsp : ∀ H : Hp, Only H → SqL K H a (ns.map V.int) → sp [.ref a] H (fun v _ => v = .bl true) fun _ _ _ => False)
    (hC : ∀ H e s', C [] H s1 (fun _ _ _ => False) e s' → False) :
    codeAny (model P w) callerA (.call (.ref fa) ⟨[.ref a], []⟩)
      (fun r s' => r = .ok (.ret (.bool true)) ∧ OldK s1.heap s'.heap ∧ s'.os = s1.os ∧ AllBare s'.gens) s1 := by
  have core := headS_core KX hns hb hbb hlim hg ha hr hdg hsy F hbind hC
  cases hk : K.lookup a with
  | some o =>
    have e := KX a o hk
    rw [ha] at e
    cases e
    let H0 : Hp := fun _ => none
    have O0 : Only H0 := fun _ => Or.inl rfl
    refine core H0 O0 (hsp H0 O0 (Or.inr ⟨_, vs.toArray, _, hk, rfl, rfl, rfl, ?_, ?_⟩)) (fun b u z => nomatch z) (fun b z => (z rfl).elim)
    · rw [List.size_toArray, hi.length]
      exact hl
    · have rv := vals_ints hi
      simpa using rv
  | none =>
    let scr : HO := .frz { cls := .type "list", data := .seq vs.toArray } (.lst (ns.map V.int))
    let H1 : Hp := fun b => if b = a then some scr else none
    have H1a : H1 a = some scr := if_pos rfl
    have H1n : ∀ b, b ≠ a → H1 b = none := fun b h => if_neg h
    have O1 : Only H1 := fun b => by
      by_cases h : b = a
      · subst h
        exact Or.inr ⟨_, _, H1a⟩
      · exact Or.inl (H1n b h)
    refine core H1 O1 (hsp H1 O1 (Or.inl (Or.inr ⟨_, H1a⟩))) (fun b u z => ?_) (fun b z => ?_)
    · by_cases h : b = a
      · subst h
        rw [H1a] at z
        cases z
        refine ⟨ha, ?_, vs, _, vals_ints hi, ha⟩
        rw [List.length_map]
        exact hl
      · rw [H1n b h] at z
        cases z
    · by_cases h : b = a
      · subst h
        exact ⟨rfl, hk⟩
      · exact (z (H1n b h)).elim
end

theorem walk_ofS {l : PySem.W.OpenLaw} {n k : Nat} {q : Program} {loose : List Str} {XP : (Str → Option Value) → Heap → Prop}
    {YP : World → Heap → Prop} {d : DefRec} {K : Params → PySem.W.Frag} {C : World → CXT} {sp : World → Sp} {x : Str}
    (hi : importsNone q = true) (hn : l.most = some n) (hn2 : n ≤ sizeLine) (hdf : d.params.defaults = []) (hr : Room k callerA)
    (hY : ∀ (w : World) (h : Heap), YP w h → (K w.params).In h)
    (F : ∀ (w : World) (mg : Str → Option Value) (fa : Addr) (h : Heap), (K w.params).In h → h.Ns mainGlobals mg → mg d.name = some (.ref fa) →
      ∃ fd : FuncData, (∀ (s : Shared) (u : Value), BindsTo s fd ⟨[u], []⟩ [(x, u)]) ∧
        ∀ base : Heap, (K w.params).In base → base.Ns mainGlobals mg → base.NoDigits → SysAt base → FnG l.prog w (K w.params) mg base (C w) k fa fd [x] (sp w))
    (hsp : ∀ (w : World) (H : Hp) (a : Addr) (ns : List Int), ns.length ≤ n → Only H → SqL (K w.params) H a (ns.map V.int) →
      sp w [.ref a] H (fun v _ => v = .bl true) fun _ _ _ => False)
    (hC : ∀ (w : World) (H : Hp) (s : Shared) (e : Value) (s' : Shared), C w [] H s (fun _ _ _ => False) e s' → False) :
    PySem.W.WalkO q loose XP YP l.row.toRowW d [] (fun f vs => PySem.call f vs) := by
  apply Att.attach_call hn hdf
  intro w s0 s1 mg mb fa o pm cd doc a vs ns G Y ho hd hcd hmg hobj hints hlen hg
  have KX := hY w _ Y
  obtain ⟨fd, hb, hF⟩ := F w mg fa _ KX G.T.g hmg
  exact law_callS KX G.T.g G.T.b G.T.builtins G.T.nolimit hg hobj hints (Nat.le_trans hlen hn2) hr G.T.nodigits (sys_of (G.T.seer hi)) hF hb
    (fun H hO hS => hsp w H a ns hlen hO hS) (fun H e s' => hC w H s1 e s')
end Dl

/-! ## t[::-1] and sorted(t) of a tuple -/
namespace DlT
open PySem PyProof.Rows
open PySem.SeqAt
open PySem.AutoSeq1 (wpAny_loadPart')
open PySem.MeetsSeq PySem.MeetsSeq2 PySem.MeetsSeq3
open HT
section
variable {prog : Program} {w : World} {A : Around} {E : Value → Shared → Prop} {s : Shared}
theorem fm_congr {α β : Type} {f g : α → Option β} : ∀ {l : List α}, (∀ x ∈ l, f x = g x) → l.filterMap f = l.filterMap g
  | [], _ => rfl
  | x :: l, h => by
    rw [List.filterMap_cons, List.filterMap_cons, h x List.mem_cons_self, fm_congr fun y hy => h y (List.mem_cons_of_mem _ hy)]
theorem adjust_rev (n : Nat) : Builtin.Slice.sliceAdjust none none (-1) (n : Int) = ((n : Int) - 1, -1) := by
  unfold Builtin.Slice.sliceAdjust
  have h1 : (-1 : Int) < 0 := by omega
  simp only [h1, if_true]
theorem places_rev (n : Nat) : Builtin.Slice.slicePlaces ((n : Int) - 1) (-1) (-1) = n := by
  unfold Builtin.Slice.slicePlaces
  have h1 : ¬ ((-1 : Int) > 0) := by omega
  simp only [h1, if_false]
  split
  · have : ((n : Int) - 1 - -1 - 1) / (- -1) + 1 = (n : Int) := by
      rw [show (- -1 : Int) = 1 by decide, Int.ediv_one]
      omega
    rw [this]
    exact Int.toNat_natCast n
  · omega
theorem pick_rev (xs : Array Value) : ((List.range xs.size).filterMap fun (m : Nat) => xs[(((xs.size : Nat) : Int) - 1 + (m : Int) * -1).toNat]?).toArray = xs.toList.reverse.toArray := by
  have e : ((List.range xs.size).filterMap fun (m : Nat) => xs[(((xs.size : Nat) : Int) - 1 + (m : Int) * -1).toNat]?) = ((List.range xs.size).map fun k => xs.size - 1 - k).filterMap (xs[·]?) := by
    rw [List.filterMap_map]
    refine fm_congr fun m hm => ?_
    have := List.mem_range.mp hm
    have e2 : (((xs.size : Nat) : Int) - 1 + (m : Int) * -1).toNat = xs.size - 1 - m := by omega
    show xs[(((xs.size : Nat) : Int) - 1 + (m : Int) * -1).toNat]? = xs[xs.size - 1 - m]?
    rw [e2]
  rw [e, PySem.W.krv_range, List.filterMap_reverse, PySem.W.krv_all]
theorem sliceApplied_rev {sl : Addr} {vl vu vs : Value} {n : Nat} {Q : Int × Int × Nat → Shared → Prop} (hs : s.heap.IsSliceOf sl vl vu vs) (pl : IsPart vl none) (pu : IsPart vu none) (ps : IsPart vs (some (-1)))
    (h : Q ((n : Int) - 1, -1, n) s) : wpAny (model prog w) A (Builtin.Slice.sliceApplied (.ref sl) (pure (n : Int))) Q E s := by
  obtain ⟨os, hos, hcs, hds⟩ := id hs
  unfold Builtin.Slice.sliceApplied Builtin.Slice.sliceFields
  refine wpAny_bind (wpAny_bind (wpAny_field hos hds (x := vl) rfl (wpAny_bind (wpAny_field hos hds (x := vu) rfl (wpAny_bind (wpAny_field hos hds (x := vs) rfl (wpAny_pure ?_)))))))
  refine wpAny_bind (slicePart_ ps ?_)
  show wpAny _ _ (if ((-1 : Int) == 0) = true then _ else _) _ _ s
  rw [if_neg (by decide)]
  refine wpAny_bind (slicePart_ pl (wpAny_bind (slicePart_ pu (wpAny_bind (wpAny_pure ?_)))))
  show wpAny _ _ (match Builtin.Slice.sliceAdjust none none (-1) (n : Int) with | (lo, hi) => pure (lo, (-1 : Int), Builtin.Slice.slicePlaces lo hi (-1))) _ _ s
  rw [adjust_rev n]
  show wpAny _ _ (pure ((n : Int) - 1, (-1 : Int), Builtin.Slice.slicePlaces ((n : Int) - 1) (-1) (-1))) _ _ s
  rw [places_rev]
  exact wpAny_pure h
theorem getItem_tuple_rev {t sl : Addr} {items : Array Value} {vl vu vs : Value} {Q : Value → Shared → Prop} (ht : IsTup s.heap t items) (hs : s.heap.IsSliceOf sl vl vu vs) (pl : IsPart vl none) (pu : IsPart vu none) (ps : IsPart vs (some (-1)))
    (h : Q (.ref s.heap.objs.size) { s with heap := s.heap.push { cls := .type "tuple", data := .seq items.toList.reverse.toArray } })
    (hsz : items.size ≤ sizeLine) : wpAny (model prog w) A (getItem (.ref t) (.ref sl)) Q E s := by
  have htake : sizeOk (.seq items.toList.reverse.toArray) := by
    show items.toList.reverse.toArray.size ≤ sizeLine
    rw [List.size_toArray, List.length_reverse, Array.length_toList]
    exact hsz
  obtain ⟨os, hos, hcs, hds⟩ := id hs
  have hTs : s.TypeIs (.ref sl) "slice" := ⟨os, hos, hcs⟩
  unfold getItem
  try with_reducible refine wpAny_holding ?_
  first | refine wpAny_bind (wpAny_pure ?_) | skip
  refine wpAny_bind (wpAny_sequenceKey ht.typeIs (by decide) ?_)
  refine wpAny_bind (wpAny_callSpecial?_slot (name := Str.ofString "__getitem__") ht.typeIs PyProof.Rows.slot_tuple_getitem
    (wpAny_call_entry PyProof.Rows.slot_tuple_getitem ht.typeIs entry_tuple_getitem ?_ (args_tuple_getitem _ _)))
  show wpAny _ _ (Builtin.Tuple.tupleItemsOf (.ref t) >>= _) _ _ s
  refine wpAny_bind (tupleItemsOf_ ht ?_)
  refine wpAny_bind (wpAny_typeOf hTs ?_)
  rw [if_pos (by decide)]
  refine wpAny_bind (sliceApplied_rev hs pl pu ps ?_)
  have hno : ¬ ((((items.size : Nat) : Int) - 1 == 0 && (-1 : Int) == 1 && items.size == items.size) = true) := by
    intro q
    rw [Bool.and_eq_true, Bool.and_eq_true] at q
    exact absurd q.1.2 (by decide)
  show wpAny _ _ (if (((items.size : Nat) : Int) - 1 == 0 && (-1 : Int) == 1 && items.size == items.size) = true then _ else _) _ _ s
  rw [if_neg hno, pick_rev]
  first
    | exact wpAny_bind (m := Builtin.Tuple.tupleExact _) (wpAny_newObj_type (wpAny_pure ⟨_, rfl, wpAny_pure h⟩) htake)
    | exact wpAny_bind (m := Builtin.Tuple.tupleExact _) (wpAny_newObj_type (wpAny_bind (wpAny_pure (wpAny_pure ⟨_, rfl, wpAny_pure h⟩))) htake)
    | exact wpAny_bind (wpAny_bind (m := Builtin.Tuple.tupleExact _) (wpAny_newObj_type (wpAny_pure (wpAny_pure ⟨_, rfl, wpAny_pure h⟩)) htake))
    | exact wpAny_bind (wpAny_bind (m := Builtin.Tuple.tupleExact _) (wpAny_newObj_type (wpAny_pure ⟨_, rfl, wpAny_pure h⟩) htake))
theorem collect_tuple {l : Addr} {vs : List Value} {Q : List Value → Shared → Prop} (hl : IsTup s.heap l vs.toArray)
    (h : Q vs { s with heap := (s.heap.push (seqObj "list" #[] 0)).update s.heap.objs.size (Obj.mapSeq (· ++ vs.toArray)) }) (hsz : vs.length ≤ sizeLine := by size_fits) :
    wpAny (model prog w) A (collect (.ref l)) Q E s := by
  obtain ⟨o, ho, hc, n, hd⟩ := id hl
  unfold collect
  refine wpAny_bind (wpAny_runValue (codeAny_builtin entry_proto_collect' ?_))
  show wpAny _ _ (do again (.builtin "list.__iadd__" ⟨[← newList [], .ref l], []⟩)) _ _ s
  refine wpAny_bind (wpAny_newList (wpAny_pure ⟨Code.quiet_builtin _ (by decide +kernel), codeAny_builtin entry_list_iadd' ?_⟩))
  show wpAny _ _ (Builtin.List.listExtendWith (.ref s.heap.objs.size) (.ref l) (.ref s.heap.objs.size)) _ _ { s with heap := s.heap.push (seqObj "list" #[] 0) }
  unfold Builtin.List.listExtendWith
  have ho' : (s.heap.push (seqObj "list" #[] 0)).get? l = some o := Heap.get?_push_of_some _ ho
  refine wpAny_bind (wpAny_typeOf (T := "tuple") ⟨o, ho', hc⟩ ?_)
  have ht : (Value.type "tuple" == Value.type "tuple") = true := by rfl
  rw [if_pos (by rw [ht]; simp)]
  refine wpAny_bind (listItems_at ho' hd ?_)
  refine wpAny_bind (listItems_at (xs := #[]) (n := 0) (Heap.get?_push_size _ rfl) rfl ?_)
  rw [if_neg (by simp)]
  refine wpAny_bind (listUpdate_at (xs := #[]) (n := 0) (Heap.get?_push_size _ rfl) rfl ?_ (Nat.zero_le _) (by show (#[] ++ vs.toArray).size ≤ sizeLine + 1; simp only [Array.size_append, List.size_toArray, List.length_nil]; omega))
  refine wpAny_pure ?_
  show wpAny (model prog w) A (do
      let o ← load s.heap.objs.size
      match o.data with
      | .seq xs _ => pure xs.toList
      | _ => unsupported "internal:collect") Q E { s with heap := (s.heap.push (seqObj "list" #[] 0)).update s.heap.objs.size (Obj.mapSeq (· ++ vs.toArray)) }
  refine wpAny_bind (wpAny_load (get?_update_seq (Heap.get?_push_size _ rfl) _) ?_)
  show wpAny _ _ (pure ((#[] : Array Value) ++ vs.toArray).toList) Q E _
  rw [show ((#[] : Array Value) ++ vs.toArray).toList = vs by simp]
  exact wpAny_pure h
open SrtO Srt in
theorem sorted_ordT {l : Addr} {vs : List Value} {ltv : Value → Value → Bool} {Q : Value → Shared → Prop} (O : Swo ltv) (hl : IsTup s.heap l vs.toArray) (hz : vs.length ≤ sizeLine)
    (hS : 2 ≤ vs.length → ∀ (h₁ : Heap) (a : Addr), h₁.get? a = some (seqObj "list" vs.toArray 0) → (∀ b o, s.heap.get? b = some o → b ≠ a ∧ h₁.get? b = some o) → SortableO prog w A.in1.in1 { s with heap := h₁ } a vs ltv)
    (h : ∀ out : List Value, Srtd ltv out → Stb ltv out vs → Q (.ref (s.heap.objs.size + 1)) { s with heap := sortedAll s.heap vs out.toArray }) :
    wpAny (model prog w) A (call (.builtin "sorted") [.ref l]) Q E s := by
  refine Calls.call_function_entry kind_sorted plain_sorted entry_sorted (args_sorted1 _) ?_
  unfold Builtin.«sorted»
  refine wpAny_bind (m := checkCount "sorted" 1 1 _) (wpAny_pure ?_)
  refine wpAny_bind (collect_tuple hl ?_ hz)
  refine wpAny_bind (wpAny_newList ?_ hz)
  have hsz : ((s.heap.push (seqObj "list" #[] 0)).update s.heap.objs.size (Obj.mapSeq (· ++ vs.toArray))).objs.size = s.heap.objs.size + 1 := by
    rw [Heap.size_update, size_push']
  have hoL : (((s.heap.push (seqObj "list" #[] 0)).update s.heap.objs.size (Obj.mapSeq (· ++ vs.toArray))).push (seqObj "list" vs.toArray 0)).get? (s.heap.objs.size + 1) = some (seqObj "list" vs.toArray 0) := by
    rw [← hsz]; exact Heap.get?_push_size _ rfl
  have keep : ∀ b o, s.heap.get? b = some o → b ≠ s.heap.objs.size + 1 ∧ (((s.heap.push (seqObj "list" #[] 0)).update s.heap.objs.size (Obj.mapSeq (· ++ vs.toArray))).push (seqObj "list" vs.toArray 0)).get? b = some o := fun b o q => by
    have hlt : b < s.heap.objs.size := Heap.lt_size q
    refine ⟨Nat.ne_of_lt (Nat.lt_succ_of_lt hlt), Heap.get?_push_of_some _ ?_⟩
    rw [Heap.get?_update_ne _ _ _ _ (Nat.ne_of_lt hlt)]
    exact Heap.get?_push_of_some _ q
  show wpAny _ _ _ _ _ { s with heap := ((s.heap.push (seqObj "list" #[] 0)).update s.heap.objs.size (Obj.mapSeq (· ++ vs.toArray))).push (seqObj "list" vs.toArray 0) }
  rw [hsz]
  refine wpAny_bind (wpAny_holding (wpAny_call_entry slot_list_sort ⟨_, hoL, rfl⟩ entry_list_sort (list_sort_ord O hoL hz (fun h2 => hS h2 _ _ hoL keep) fun out hs hb => ⟨_, rfl, ?_⟩) (args_list_sort _)))
  exact wpAny_pure ⟨_, rfl, h out hs hb⟩
end
end DlT

namespace Dl
open PySem PySem.Spec PyProof.Rows L2
section
variable {X : Cx}
def tRevT (K : PySem.W.Frag) (te : TE) : TE := fun σ H Q => te σ H fun x H1 => ∃ a xs, x = .ref a ∧ SqT K H1 a xs ∧ ∀ p, H1 p = none → Q (.ref p) (upd H1 p (.tup xs.reverse))
theorem pe_revT {e : Expr} {te : TE} {k : Nat} {p1 p2 p3 pos : Pos} (he : PE X e te) : PE X (.Subscript e (.Slice none none (some (.UnaryOp .USub (.Constant (.int 1) k p1) p2)) p3) pos) (tRevT X.K te) := by
  refine ⟨fun pins s σ H Q I h => ?_⟩
  refine Subscript_ (thn (he.run pins s σ H _ I h) fun v s1 ⟨x, H1, I1, r1, q1⟩ => ?_)
  obtain ⟨a, xs, ex, hx, q⟩ := q1
  subst ex
  cases r1
  have hst : PO X (some (.UnaryOp .USub (.Constant (.int 1) k p1) p2)) (tPart (tUn (rU fun i => .int (-i)) (tC (.int 1)))) := po_some (pe_un un_neg pe_int)
  refine wpAny_Slice (thn (po_none.run pins s1 σ H1 (fun o H2 => o = none ∧ H2 = H1) I1 ⟨rfl, rfl⟩) fun vl s2 ⟨l, H2, I2, pl, el, e2⟩ => ?_)
  subst el e2
  refine thn (po_none.run pins s2 σ H2 (fun o H3 => o = none ∧ H3 = H2) I2 ⟨rfl, rfl⟩) fun vu s3 ⟨u, H3, I3, pu, eu, e3⟩ => ?_
  subst eu e3
  refine thn (hst.run pins s3 σ H3 (fun o H4 => o = some (-1) ∧ H4 = H3) I3 ⟨1, rfl, -1, rfl, rfl, rfl⟩) fun vs s4 ⟨o, H4, I4, ps, eo, e4⟩ => ?_
  subst eo e4
  have I5 : Inv X pins σ H4 { s4 with heap := s4.heap.push { cls := .type "slice", data := .fields #[vl, vu, vs] } } := I4.kept (t' := s4.toks) fun b ob q => Heap.get?_push_of_some _ q
  obtain ⟨its, r, ht, hz⟩ := I5.tuple hx
  have hlen := r.length
  show wpAny (model X.prog X.w) X.A (subscriptTail e (.Slice none none (some (.UnaryOp .USub (.Constant (.int 1) k p1) p2)) p3) (.ref a) (.ref s4.heap.objs.size)) (EP X pins σ Q) X.xe { s4 with heap := s4.heap.push { cls := .type "slice", data := .fields #[vl, vu, vs] } }
  refine tail_any (ops := [.ref a, .ref s4.heap.objs.size]) ht.typeIs (PyProof.Rows.slot_tuple_getitem.lookup) ?_ (by with_unfolding_all rfl)
  refine DlT.getItem_tuple_rev ht (Heap.IsSliceOf.new _ vl vu vs) pl pu ps ?_ (by rw [List.size_toArray]; omega)
  refine ⟨.ref _, _, I5.laid (t' := s4.toks) (o := .tup xs.reverse) (fun b ob q => Heap.get?_push_of_some _ q) (Nat.le_refl _) ?_, rfl, q _ (I5.hok.fresh (Nat.le_refl _))⟩
  exact ⟨by rw [List.length_reverse]; exact hz, _, r.reverse, IsTup.new _ _⟩
def rSortedTI (K : PySem.W.Frag) : List V → Hp → VK → Prop := fun vs H Q => ∃ (a : Addr) (ns : List Int), vs = [V.ref a] ∧ SqT K H a (ns.map V.int) ∧
  ∀ (ns' : List Int) (p : Addr), ns'.Perm ns → ns'.Pairwise (· ≤ ·) → H p = none → Q (.ref p) (upd H p (.lst (ns'.map V.int)))
theorem cr_sortedTI : CallR X (.builtin "sorted") (rSortedTI X.K) := by
  intro pins s σ H vs us Q I r h
  obtain ⟨a, ns, rfl, hs, q⟩ := h
  obtain ⟨its, rv, hl, hz⟩ := I.tuple hs
  rw [Vals.ref1 r]
  have hi := rv.ints
  refine DlT.sorted_ordT SrtO.swo_int hl (by rw [← rv.length]; exact hz) (fun h2 h₁ a' _ _ => SrtO.ints_sortable hi h2) fun out h1 h2 => ?_
  obtain ⟨k1, k2, k3⟩ := SrtO.ints_out hi h1 h2
  obtain ⟨ep, he'⟩ := PyProof.Rows.sortedAll_at s.heap its out.toArray
  have hlen : ((out.map SrtO.iv).map V.int).length ≤ sizeLine := by
    rw [List.length_map, k2.length_eq]
    rw [List.length_map] at hz
    exact hz
  exact ⟨.ref _, upd H (s.heap.objs.size + 1) (.lst ((out.map SrtO.iv).map V.int)), I.laid (t' := s.toks) (fun _ _ => PyProof.Rows.sortedAll_old) (Nat.le_succ _) ⟨hlen, out, ep, vals_of_ints k1, he'⟩, rfl, q _ _ k2 k3 (I.hok.fresh (Nat.le_succ _))⟩
end
section
variable {K : PySem.W.Frag} {W : Fx} {ρ : List Sk} {te : TE} {ds : List PyData}
theorem DqA.rev {D : Hp} : ∀ {vs : List V} {ds : List PyData}, DqA K D vs ds → DqA K D vs.reverse ds.reverse
  | _, _, .nil => .nil
  | _, _, .cons h1 h2 => by
    rw [List.reverse_cons, List.reverse_cons]
    exact h2.rev.app (.cons h1 .nil)
theorem ev_revT (h : EvD K W te ρ (.tuple ds)) : EvD K W (tRevT K te) ρ (.tuple ds.reverse) := fun D0 H0 D H σ e Q q =>
  h D0 H0 D H σ e _ fun v D1 H1 d s1 q1 p1 => by
    subst p1
    have o1 := s1.ok e.ok
    cases q1 with
    | tup h1 h2 =>
      refine ⟨_, _, rfl, same_t o1.sub h1, fun p hp => ?_⟩
      exact q _ _ _ _ (s1.trans e.ok (Step.made o1 hp)) (.tup (SqT.of upd_same) ((h2.up (same_new (o1.sub.free hp))).rev)) rfl
theorem evf_sortTI {PN : List Int → Prop} (h : EvN K W te ρ (fun d => ∃ ns : List Int, d = .tuple (ns.map .int) ∧ PN ns)) :
    EvF K W (tCB (rSortedTI K) (tCons te tNil)) ρ (fun ds => ∃ ns ns' : List Int, PN ns ∧ ns'.Perm ns ∧ ns'.Pairwise (· ≤ ·) ∧ ds = ns'.map .int) := fun D0 H0 D H σ e Q q =>
  h D0 H0 D H σ e _ fun v D1 H1 d s1 q1 ⟨ns, e1, p1⟩ => by
    subst e1
    have o1 := s1.ok e.ok
    cases q1 with
    | tup h1 h2 =>
      have ex := h2.isInts
      subst ex
      refine ⟨_, ns, rfl, same_t o1.sub h1, fun ns' p g1 g2 g3 => ?_⟩
      have s2 : Step W D H D1 (upd H1 p (.lst (ns'.map V.int))) := s1.trans e.ok (.keptH o1 (same_new g3))
      exact q p _ D1 _ _ s2 (fresh_of e.ok s1 g3) (o1.sub.free g3) upd_same (DqA.ints ns') ⟨ns, ns', p1, g1, g2, rfl⟩
theorem ev_catT {ta tb : TE} {xs ys : List PyData} (ha : EvD K W ta ρ (.tuple xs)) (hb : EvD K W tb ρ (.tuple ys)) (hz : xs.length + ys.length ≤ sizeLine) : EvD K W (tOp (rCatA K) ta tb) ρ (.tuple (xs ++ ys)) := fun D0 H0 D H σ e Q q =>
  ha D0 H0 D H σ e _ fun v D1 H1 d s1 q1 p1 => hb D0 H0 D1 H1 σ (e.step s1) _ fun u D2 H2 d2 s2 q2 p2 => by
    subst p1
    subst p2
    have s12 := s1.trans e.ok s2
    have o2 := s12.ok e.ok
    cases q1 with
    | tup h1 h2 =>
      cases q2 with
      | tup h3 h4 =>
        have h2' := h2.up s2.gro
        have l1 := h2.len
        have l3 := h4.len
        refine ⟨_, _, _, _, rfl, rfl, same_t (s2.gro.trans o2.sub) h1, same_t o2.sub h3, by omega, fun z => ?_, fun _ z => ?_, fun _ _ p hp => ?_⟩
        · have : xs = [] := List.length_eq_zero_iff.mp (by rw [← l1, z]; rfl)
          exact q _ D2 H2 _ s12 (.tup h3 h4) (by rw [this]; rfl)
        · have : ys = [] := List.length_eq_zero_iff.mp (by rw [← l3, z]; rfl)
          exact q _ D2 H2 _ s12 (.tup (same_t s2.gro h1) h2') (by rw [this, List.append_nil])
        · exact q _ _ _ _ (s12.trans e.ok (Step.made o2 hp)) (.tup (SqT.of upd_same) ((h2'.app h4).up (same_new (o2.sub.free hp)))) rfl
/-- a + b, told by what both are -/
theorem ev_catP {ta tb : TE} {PA PB : List PyData → Prop} (ha : EvN K W ta ρ (fun d => ∃ xs, d = .tuple xs ∧ PA xs)) (hb : EvN K W tb ρ (fun d => ∃ ys, d = .tuple ys ∧ PB ys)) (hz : ∀ xs ys, PA xs → PB ys → xs.length + ys.length ≤ sizeLine) :
    EvN K W (tOp (rCatA K) ta tb) ρ (fun d => ∃ xs ys, PA xs ∧ PB ys ∧ d = .tuple (xs ++ ys)) := fun D0 H0 D H σ e Q q =>
  ha D0 H0 D H σ e _ fun v D1 H1 d s1 q1 ⟨xs, p1, pa⟩ => hb D0 H0 D1 H1 σ (e.step s1) _ fun u D2 H2 d2 s2 q2 ⟨ys, p2, pb⟩ => by
    subst p1
    subst p2
    have s12 := s1.trans e.ok s2
    have o2 := s12.ok e.ok
    have hz := hz xs ys pa pb
    cases q1 with
    | tup h1 h2 =>
      cases q2 with
      | tup h3 h4 =>
        have h2' := h2.up s2.gro
        have l1 := h2.len
        have l3 := h4.len
        refine ⟨_, _, _, _, rfl, rfl, same_t (s2.gro.trans o2.sub) h1, same_t o2.sub h3, by omega, fun z => ?_, fun _ z => ?_, fun _ _ p hp => ?_⟩
        · have : xs = [] := List.length_eq_zero_iff.mp (by rw [← l1, z]; rfl)
          exact q _ D2 H2 _ s12 (.tup h3 h4) ⟨xs, ys, pa, pb, by rw [this]; rfl⟩
        · have : ys = [] := List.length_eq_zero_iff.mp (by rw [← l3, z]; rfl)
          exact q _ D2 H2 _ s12 (.tup (same_t s2.gro h1) h2') ⟨xs, ys, pa, pb, by rw [this, List.append_nil]⟩
        · exact q _ _ _ _ (s12.trans e.ok (Step.made o2 hp)) (.tup (SqT.of upd_same) ((h2'.app h4).up (same_new (o2.sub.free hp)))) ⟨xs, ys, pa, pb, rfl⟩
end
end Dl

/-! ## x == (), whatever stands in x -/
namespace DlE
open PySem PySem.SeqAt PyProof.Rows
open AutoSeq1 (wpAny_loadPart')
open MeetsSeq
section
theorem dict_eq_declines_tuple (l b : Addr) (es : Array DictEntry) (items2 : Array Value) (n n2 : Nat) (dd dd2 : Option Addr) (sl sl2 : Array (Option Value)) :
    Meets (Builtin.«dict.__eq__» ⟨[.ref l, .ref b], []⟩) (fun _ R s => s.heap.get? l = some { cls := .type "dict", dict := dd, data := .dict es n, slots := sl } ∧ s.heap.get? b = some { cls := .type "tuple", dict := dd2, data := .seq items2 n2, slots := sl2 } ∧ R (.ok (.ret .notImplemented)) s) :=
  .of_wp fun prog w A R s h => by obtain ⟨hp, g, d, tk, os⟩ := s; obtain ⟨hl, hb, h⟩ := h; have f1 := F.sub_tuple_dict; wp_walk using wpAny_loadPart' hl, wpAny_loadPart' hb; exact ⟨_, rfl, h⟩
theorem tuple_eq_declines_dict (l b : Addr) (items : Array Value) (es : Array DictEntry) (n n2 : Nat) (dd dd2 : Option Addr) (sl sl2 : Array (Option Value)) :
    Meets (Builtin.«tuple.__eq__» ⟨[.ref l, .ref b], []⟩) (fun _ R s => s.heap.get? l = some { cls := .type "tuple", dict := dd, data := .seq items n, slots := sl } ∧ s.heap.get? b = some { cls := .type "dict", dict := dd2, data := .dict es n2, slots := sl2 } ∧ R (.ok (.ret .notImplemented)) s) :=
  .of_wp fun prog w A R s h => by obtain ⟨hp, g, d, tk, os⟩ := s; obtain ⟨hl, hb, h⟩ := h; have f1 := F.sub_dict_tuple; wp_walk using wpAny_loadPart' hl, wpAny_loadPart' hb; exact ⟨_, rfl, h⟩
variable {A : Around} {s : Shared}
theorem rc_dict_tuple {l b : Addr} {o : Obj} {es : Array DictEntry} {n : Nat} {items2 : Array Value} (ho : s.heap.get? l = some o) (hc : o.cls = .type "dict") (hd : o.data = .dict es n) (hb : s.heap.IsTuple b items2) (hu : A.units < cLine) : RcAt A s (.ref l) (.ref b) false := fun prog w E Q h => by
  obtain ⟨cls, dd, data, sl⟩ := o
  obtain ⟨⟨cls2, dd2, data2, sl2⟩, ho2, hc2, n2, hd2⟩ := id hb
  simp only at hc hd hc2 hd2
  subst hc hd hc2 hd2
  have hne : l ≠ b := fun z => by
    rw [z, ho2] at ho
    injection ho with e
    injection e with e1
    exact absurd (Value.type.inj e1) (by decide)
  exact (rc_eq_decline_or (k := false) ⟨_, ho, rfl⟩ ⟨_, ho2, rfl⟩ (by decide) F.sub_tuple_dict F.slot_dict_eq F.slot_tuple_eq_refl
    (fun _ hq => call_meets F.slot_dict_eq ⟨_, ho, rfl⟩ F.entry_dict_eq (F.args_dict_eq_2 _ _) (dict_eq_declines_tuple l b es items2 n n2 dd dd2 sl sl2) ⟨ho, ho2, hq⟩)
    (fun _ hq => call_meets F.slot_tuple_eq_refl ⟨_, ho2, rfl⟩ F.entry_tuple_eq (F.args_tuple_eq_2 _ _) (tuple_eq_declines_dict b l items2 es n2 n dd2 dd sl2 sl) ⟨ho2, ho, hq⟩)
    (fun _ hq => wpAny_isSame_ref_other hne ho ho2 (by simp) hq) (.inr hu) h)
end
end DlE
namespace Dl
open PySem PySem.Spec PyProof.Rows L2
def nilD : PyData → Bool
  | .tuple [] => true
  | _ => false
section
variable {X : Cx}
def rEqU (K : PySem.W.Frag) : R2 := fun x y H Q => ∃ d, Dq K H x d ∧ (∃ b, y = .ref b ∧ SqT K H b []) ∧ (SeqAt.shaped d = true ∨ (∃ ds, d = .tuple ds) ∨ d = .dict []) ∧ Q (.bl (nilD d)) H
theorem op_eqU (hu : X.A.units + 64 < cLine) : OpR X (compareOp .Eq) (rEqU X.K) := by
  intro pins s σ H x y v u Q I rx ry h
  obtain ⟨d, hd, ⟨b, rfl, hb⟩, hk, q⟩ := h
  cases ry
  obtain ⟨its2, r2, p2, _⟩ := I.tuple hb
  cases r2
  by_cases hs : SeqAt.shaped d = true
  · obtain ⟨as, r1⟩ := Dq.reads I v hd rx
    obtain ⟨bs, r3⟩ := Dq.reads I (.ref b) (Dq.tup hb .nil) rfl
    refine SeqAt.compareEq_shaped r1 r3 hs (by decide +kernel) hu ⟨.bl (PyData.eqv d (.tuple [])), H, I, rfl, ?_⟩
    have : PyData.eqv d (.tuple []) = nilD d := by
      cases d with
      | tuple ds => cases ds <;> simp [PyData.eqv, PyData.eqvAll, nilD]
      | _ => simp [PyData.eqv, nilD]
    rw [this]
    exact q
  · rcases hk with hk | ⟨ds, rfl⟩ | rfl
    · exact absurd hk hs
    · cases hd with
      | tup h1 h2 =>
        cases rx
        obtain ⟨its, r1, p1, _⟩ := I.tuple h1
        have hlen := h2.len
        have hl2 := r1.length
        refine SeqAt.RcAt.tuples (e := fun _ => true) p1 p2 (by omega) (fun j _ j2 => absurd j2 (Nat.not_lt_zero _)) X.prog X.w _ _ ⟨.bl (nilD (.tuple ds)), H, I, ?_, q⟩
        cases ds with
        | nil =>
          have : its = [] := List.length_eq_zero_iff.mp (by rw [← hl2, hlen]; rfl)
          subst this
          rfl
        | cons e es =>
          obtain ⟨i0, its', e1⟩ : ∃ i0 its', its = i0 :: its' := by
            cases its with
            | nil => rw [hlen] at hl2; cases hl2
            | cons a b => exact ⟨a, b, rfl⟩
          subst e1
          show Value.bool _ = Value.bool _
          simp [nilD]
    · rcases hd.dictI with ⟨a, ks, xs, ds, rfl, h1, _⟩ | ⟨a, ks, xs, ds, rfl, h1, _⟩
      · cases rx
        obtain ⟨_, hne, vs, kv, o, es, ep, e1, ⟨c1, _, _⟩, e2, _, pr, _⟩ := dkG_rd I.hok h1.rd
        exact DlE.rc_dict_tuple e1 c1 e2 p2 (by omega) X.prog X.w _ _ ⟨.bl false, H, I, rfl, q⟩
      cases rx
      obtain ⟨_, hne, vs, kv, o, es, ep, e1, ⟨c1, _, _⟩, e2, _, pr, _⟩ := dtG_rd I.hok h1.rd
      exact DlE.rc_dict_tuple e1 c1 e2 p2 (by omega) X.prog X.w _ _ ⟨.bl false, H, I, rfl, q⟩
end
section
variable {K : PySem.W.Frag} {W : Fx} {d : PyData}
theorem rd_eqU (h : SeqAt.shaped d = true ∨ (∃ ds, d = .tuple ds) ∨ d = .dict []) : RD K W (rEqU K) d (.tuple []) (· = .bool (nilD d)) := fun D H x y o hx hy Q q => by
  cases hy with
  | tup h1 h2 =>
    cases h2
    exact ⟨d, hx.up o.sub, ⟨_, rfl, same_t o.sub h1⟩, h, q _ D H _ (.refl o) (.bl _) rfl⟩
end
end Dl

/-! ## sets of texts that are walked -/
namespace DlS
open PySem PySem.Spec PyProof.Rows L2

/-! ### what a set of texts is -/
def keyS (e : Int × Value) : Str := match e.2 with | .str k _ => k | _ => Str.empty
def GoodS (w : World) (e : Int × Value) : Prop := ∃ k tk, e.2 = Value.str k tk ∧ e.1 = hashStr w k

/-- the set of ints at a: S its members, n their number; its table rises and can be walked -/
def SetS (w : World) (h : Heap) (a : Addr) (S : Str → Bool) (n : Nat) : Prop :=
  ∃ o es ep t, h.get? a = some o ∧ o.ExactSet ∧ o.data = .set es ep t ∧ (∀ e ∈ es.toList, GoodS w e) ∧ (es.toList.map keyS).Nodup ∧ (∀ k, S k = true ↔ k ∈ es.toList.map keyS) ∧
    es.size < scanBound ∧ t.fits es.size = true ∧ es.size = n ∧ Ris t.place.toList ∧ (w.params.followText "set-order" = true ∨ t.led = true)

section
variable {P : Program} {w : World} {h h' : Heap} {a : Addr} {S : Str → Bool} {n : Nat}

theorem SetS.at (R : SetS w h a S n) (k : ∀ o, h.get? a = some o → h'.get? a = some o) : SetS w h' a S n := by
  obtain ⟨o, es, ep, t, ho, r⟩ := R
  exact ⟨o, es, ep, t, k o ho, r⟩
theorem SetS.lt (R : SetS w h a S n) : a < h.objs.size := by
  obtain ⟨o, es, ep, t, ho, r⟩ := R
  exact Heap.lt_size ho
theorem SetS.congr {S' : Str → Bool} (R : SetS w h a S n) (e : ∀ k, S' k = S k) : SetS w h a S' n := by
  have q : S' = S := funext e
  rw [q]; exact R
theorem goodS_elems {l : List (Int × Value)} (g : ∀ e ∈ l, GoodS w e) : ElemsOf (PySem.strKind P w) l := fun e he => by
  obtain ⟨k, tk, h1, h2⟩ := g e he
  exact ⟨⟨k, by rw [h1]; exact strKind_is P w k tk, h2⟩, by rw [h1] <;> rfl⟩
theorem goodS_is {e : Int × Value} (g : GoodS w e) (k : Str) : (PySem.strKind P w).is k e.2 = true ↔ keyS e = k := by
  obtain ⟨k0, tk, h1, _⟩ := g
  unfold keyS
  rw [h1]
  show ((k0 == k) = true) ↔ k0 = k
  exact beq_iff_eq
theorem goodS_mem {l : List (Int × Value)} (g : ∀ e ∈ l, GoodS w e) (k : Str) : k ∈ l.map keyS ↔ ∃ e ∈ l, (PySem.strKind P w).is k e.2 = true := by
  rw [List.mem_map]
  constructor
  · rintro ⟨e, he, q⟩
    exact ⟨e, he, (goodS_is (g e he) k).2 q⟩
  · rintro ⟨e, he, q⟩
    exact ⟨e, he, (goodS_is (g e he) k).1 q⟩
theorem SetS.setOf (R : SetS w h a S n) : h.SetOf (PySem.strKind P w) a S n := by
  obtain ⟨o, es, ep, t, ho, hx, hd, g, nd, hm, hb, hf, hn, _⟩ := R
  exact ⟨o, es, ep, t, ho, hx, hd, goodS_elems g, fun k => (hm k).trans (goodS_mem g k), hb, hf, hn⟩
end

section
variable {P : Program} {w : World} {A : Around} {E : Value → Shared → Prop} {s : Shared} {a : Addr} {S : Str → Bool} {n : Nat}

/-! ### add -/
theorem storeS_at {h : Heap} {a : Addr} {o : Obj} {es es' : Array (Int × Value)} {ep : Nat} {t t' : SetTable} (ho : h.get? a = some o) (hd : o.data = .set es ep t) :
    (h.update a (Obj.putSet es' t')).get? a = some { o with data := .set es' (ep + 1) t' } := by
  have q := Heap.get?_update_self (Obj.putSet es' t') ho (by rw [putSet_of es' t' hd]; rfl)
  rw [putSet_of es' t' hd] at q
  exact q

theorem setS_add_tail {g : Bool → Sem Unit} (hg : ∀ (b : Bool) (s₁ : Shared) (Q' : Unit → Shared → Prop), Q' () s₁ → wpAny (model P w) A (g b) Q' E s₁)
    {o : Obj} {es : Array (Int × Value)} {ep : Nat} {t : SetTable} (ho : s.heap.get? a = some o) (hex : o.ExactSet) (hd : o.data = .set es ep t)
    {es1 : Array (Int × Value)} {t2 : SetTable} {S' : Str → Bool} (g1 : ∀ e ∈ es1.toList, GoodS w e) (nd1 : (es1.toList.map keyS).Nodup) (m1 : ∀ k, S' k = true ↔ k ∈ es1.toList.map keyS)
    (hb1 : es1.size < scanBound) (hf2 : t2.fits es1.size = true) (hr : Ris t2.place.toList) (hl : w.params.followText "set-order" = true ∨ t2.led = true) {wasDummy : Bool} {R : Option Bool → Shared → Prop}
    (hR : ∀ h', Heap.SameBut a s.heap h' → SetS w h' a S' es1.size → R (some true) { s with heap := h' }) :
    wpAny (model P w) A (do
        storeSet a es1 t2
        if (!wasDummy && t2.tooFull) = true then do
            g (relayAll t2 es1 (SetTable.grown es1.size)).2.2
            storeSet a (relayAll t2 es1 (SetTable.grown es1.size)).1 (relayAll t2 es1 (SetTable.grown es1.size)).2.1
            pure (some true)
          else pure (some true)) R E s := by
  refine wpAny_bind (wpAny_storeSet_of ho hd ?_ (fits_of_scanBound hb1))
  have ho1 := storeS_at (es' := es1) (t' := t2) ho hd
  have sb1 := Heap.SameBut.update s.heap a (Obj.putSet es1 t2)
  split
  · have pm := relayAll_perm t2 es1 (SetTable.grown es1.size)
    have hf3 := relayAll_fits t2 es1 (SetTable.grown es1.size)
    have hr3 := relayAll_ris t2 es1 (SetTable.grown es1.size)
    have hl3 := relayAll_led t2 es1 (SetTable.grown es1.size)
    generalize relayAll t2 es1 (SetTable.grown es1.size) = Z at pm hf3 hr3 hl3 ⊢
    obtain ⟨es2, t3, gave⟩ := Z
    dsimp only at pm hf3 hr3 hl3 ⊢
    have hsz : es2.size = es1.size := by rw [← Array.length_toList, pm.length_eq, Array.length_toList]
    have hb2 : es2.size < scanBound := by rw [hsz]; exact hb1
    refine wpAny_bind (hg _ _ _ ?_)
    refine wpAny_bind (wpAny_storeSet_of ho1 rfl ?_ (fits_of_scanBound hb2))
    have ho2 := storeS_at (es' := es2) (t' := t3) ho1 rfl
    refine wpAny_pure (hR _ (sb1.trans (Heap.SameBut.update _ a _)) ?_)
    exact ⟨_, es2, _, t3, ho2, hex, rfl, fun e he => g1 e (pm.mem_iff.mp he), (pm.map keyS).nodup_iff.mpr nd1, fun k => (m1 k).trans (pm.map keyS).mem_iff.symm, hb2, hf3, hsz, hr3,
      hl.imp id fun z => by rw [hl3]; exact z⟩
  · exact wpAny_pure (hR _ sb1 ⟨_, es1, _, t2, ho1, hex, rfl, g1, nd1, m1, hb1, hf2, rfl, hr, hl⟩)

theorem setS_add_hashed {k : Str} {tk : Tok} {Q : Bool → Shared → Prop} (R : SetS w s.heap a S n) (room : n + 1 < scanBound)
    (hQ : ∀ h', Heap.SameBut a s.heap h' → SetS w h' a (fun j => S j || decide (j = k)) (if S k = true then n else n + 1) → Q (!S k) { s with heap := h' }) :
    wpAny (model P w) A (setAddHashed a (.str k tk) ((PySem.strKind P w).hash k)) Q E s := by
  obtain ⟨o, es, ep, t, ho, hex, hd, g, nd, hm, hb, hf, hn, hr, hl⟩ := R
  have hkey : (PySem.strKind P w).is k (.str k tk) = true := strKind_is P w k tk
  have hsc : (Value.str k tk).scannable = true := rfl
  have hel : ElemsOf (PySem.strKind P w) es.toList := goodS_elems g
  unfold setAddHashed setAddHashedIn
  refine wpAny_holding (wpAny_bind (wpAny_setState_of ho hd hf ?_))
  dsimp only
  rw [byScan_of hsc hb hel]
  simp only [↓reduceIte]
  unfold setAddByScan
  refine wpAny_bind ?_
  refine wpAny_bind (wpAny_rule ?_)
  refine wpAny_bind (wpAny_setScan_of hkey ho hd hf hel ?_)
  cases hfi : List.findIdx? (fun e => (PySem.strKind P w).is k e.2) es.toList with
  | some j =>
    dsimp only
    obtain ⟨hj, pj, _⟩ := List.findIdx?_eq_some_iff_getElem.mp hfi
    have hSk : S k = true := (hm k).2 ((goodS_mem (P := P) (w := w) g k).2 ⟨es.toList[j], List.getElem_mem hj, pj⟩)
    refine wpAny_pure (wpAny_pure ?_)
    have q := hQ s.heap (Heap.SameBut.refl a s.heap) ⟨o, es, ep, t, ho, hex, hd, g, nd, fun i => by
      rw [Bool.or_eq_true, decide_eq_true_eq, ← hm i]
      exact ⟨fun z => z.elim id (fun e => e ▸ hSk), .inl⟩, hb, hf, by rw [if_pos hSk]; exact hn, hr, hl⟩
    rw [hSk] at q
    exact q
  | none =>
    dsimp only
    have hnk : k ∉ es.toList.map keyS := fun z => by
      obtain ⟨e, he, q⟩ := (goodS_mem (P := P) (w := w) g k).1 z
      have c := List.findIdx?_eq_none_iff.mp hfi e he
      rw [q] at c
      cases c
    have hSk : S k = false := by
      cases q : S k with
      | false => rfl
      | true => exact absurd ((hm k).1 q) hnk
    have hgw : ∀ (b : Bool) {s₁ : Shared} {Q' : Unit → Shared → Prop}, Q' () s₁ → wpAny (model P w) A (match b with | true => rule "set.scan.the-table-gave-way" | false => pure ()) Q' E s₁ :=
      fun b s₁ Q' q => by cases b <;> first | exact wpAny_pure q | exact wpAny_rule q
    have pm := layNew_perm t es ((PySem.strKind P w).hash k) (.str k tk)
    have hf1 := layNew_fits t es ((PySem.strKind P w).hash k) (.str k tk)
    have hr1 := layNew_ris t es ((PySem.strKind P w).hash k) (.str k tk) hr
    have hl1 := layNew_led t es ((PySem.strKind P w).hash k) (.str k tk)
    generalize layNew t es ((PySem.strKind P w).hash k) (.str k tk) = Z at pm hf1 hr1 hl1 ⊢
    obtain ⟨es1, t1, wasDummy, gave⟩ := Z
    dsimp only at pm hf1 hr1 hl1 ⊢
    rw [Array.toList_push] at pm
    have pc : es1.toList.Perm (((PySem.strKind P w).hash k, Value.str k tk) :: es.toList) := pm.trans (List.perm_append_singleton _ _)
    have pk : (es1.toList.map keyS).Perm (k :: es.toList.map keyS) := pc.map keyS
    have g1 : ∀ e ∈ es1.toList, GoodS w e := fun e he => by
      rcases List.mem_cons.mp (pc.mem_iff.mp he) with z | z
      · rw [z]; exact ⟨k, tk, rfl, rfl⟩
      · exact g e z
    have nd1 : (es1.toList.map keyS).Nodup := pk.nodup_iff.mpr (List.nodup_cons.mpr ⟨hnk, nd⟩)
    have m1 : ∀ i, (S i || decide (i = k)) = true ↔ i ∈ es1.toList.map keyS := fun i => by
      rw [Bool.or_eq_true, decide_eq_true_eq, hm i, pk.mem_iff, List.mem_cons]
      exact Or.comm
    have hsz : es1.size = n + 1 := by rw [← Array.length_toList, pc.length_eq, List.length_cons, Array.length_toList, hn]
    have hb1 : es1.size < scanBound := by rw [hsz]; exact room
    have hled : w.params.followText "set-order" = true ∨ t1.led = true := hl.imp id fun z => by rw [hl1]; exact z
    have fin : ∀ h', Heap.SameBut a s.heap h' → SetS w h' a (fun j => S j || decide (j = k)) es1.size → Q true { s with heap := h' } := fun h' sb r => by
      have q := hQ h' sb
      rw [hSk] at q
      rw [hsz] at r
      exact q r
    refine wpAny_bind (hgw _ ?_)
    split
    · refine wpAny_bind ?_
      rw [hashByValue_scannable 8 hsc]
      refine wpAny_pure ?_
      refine setS_add_tail ?_ ho hex hd g1 nd1 m1 hb1 ?_ ?_ ?_ ?_
      · intro b s₁ Q' q; cases b <;> first | exact wpAny_pure q | exact wpAny_rule q
      · first | (split <;> first | exact hf1 | exact SetTable.fits_plain_off hf1) | exact hf1
      · first | (split <;> exact hr1) | exact hr1
      · first | (split <;> exact hled) | exact hled
      · intro h' sb r; dsimp only; exact wpAny_pure (fin h' sb r)
    · refine wpAny_bind (wpAny_pure ?_)
      simp only [↓reduceIte]
      refine setS_add_tail ?_ ho hex hd g1 nd1 m1 hb1 hf1 hr1 hled ?_
      · intro b s₁ Q' q; cases b <;> first | exact wpAny_pure q | exact wpAny_rule q
      · intro h' sb r; dsimp only; exact wpAny_pure (fin h' sb r)

/-- found.add(k) -/
theorem setS_add {k : Str} {tk : Tok} {Q : Value → Shared → Prop} (R : SetS w s.heap a S n) (room : n + 1 < scanBound)
    (hQ : ∀ h', Heap.SameBut a s.heap h' → SetS w h' a (fun j => S j || decide (j = k)) (if S k = true then n else n + 1) → Q .none { s with heap := h', toks := s.toks + 1 }) :
    wpAny (model P w) A (call (.builtin "set.add") [.ref a, .str k tk]) Q E s := by
  have hS : s.heap.SetOf (PySem.strKind P w) a S n := R.setOf
  refine wpAny_call_entry F.slot_set_add hS.typeIs F.entry_set_add ?_ (F.args_set_add_2 _ _)
  unfold Builtin.«set.add» Builtin.Frozenset.oneOther
  simp only [List.isEmpty_nil, bind_assoc]
  unfold Builtin.Frozenset.addrOf setAdd
  refine wpAny_bind (wpAny_pure ?_)
  try dsimp only
  refine wpAny_bind (wpAny_pure ?_)
  try dsimp only
  refine wpAny_bind ?_
  refine wpAny_holding ?_
  refine wpAny_bind ((PySem.strKind P w).pyHash (strKind_is P w k tk) ?_)
  refine setS_add_hashed (s := { s with toks := s.toks + 1 }) R room fun h' sb r => ?_
  show wpAny _ _ (ret Value.none) _ _ _
  exact wpAny_pure ⟨_, rfl, hQ h' sb r⟩

/-! ### sorted -/
def valS : Value → Str
  | .str x _ => x
  | _ => Str.empty
theorem strs_ofS : ∀ (l : List Value), (∀ v ∈ l, ∃ k tk, v = Value.str k tk) → StrsAre l (l.map valS)
  | [], _ => .nil
  | v :: l, h => by
    obtain ⟨k, tk, rfl⟩ := h v List.mem_cons_self
    exact .cons k tk (strs_ofS l fun u hu => h u (List.mem_cons_of_mem _ hu))
theorem list_sort_str {a : Addr} {vs : List Value} {ss : List Str} {n : Nat} {Pf : Fin → Shared → Prop} (ho : s.heap.get? a = some (seqObj "list" vs.toArray n))
    (hS : StrsAre vs ss) (hL : vs.length ≤ sizeLine)
    (h : ∀ (out : Array Value) (ss' : List Str), StrsAre out.toList ss' → ss'.Perm ss → sortedS ss' = true → Pf (.done (.ret .none)) { s with heap := sortedHeap s.heap a vs out }) :
    wpAny (model P w) A (Builtin.«list.sort» ⟨[.ref a], []⟩) Pf E s := by
  refine list_sort_treeKAny strKind_oneLt ho hS.keysOf (fun v₁ v₂ rest e => keyKind_strs (by rw [← e]; exact hS)) hL fun st' hp hs => ?_
  obtain ⟨ss', h1, h2, h3⟩ := sorted_out_str hS hp hs
  exact h _ ss' h1 h2 h3
theorem sorted_setS {S : Str → Bool} {n : Nat} {Q : Value → Shared → Prop} (R : SetS w s.heap a S n) (hh : A.handled = none) (h64 : n < 1000)
    (hQ : ∀ s' p (out : Array Value) (c : Nat) (ns : List Str), (∀ b o, s.heap.get? b = some o → s'.heap.get? b = some o) → s'.gens = s.gens → s'.os = s.os → s.heap.objs.size ≤ p →
      s'.heap.get? p = some (seqObj "list" out c) → StrsAre out.toList ns → sortedS ns = true → ns.Nodup → (∀ k, k ∈ ns ↔ S k = true) → ns.length = n → Q (.ref p) s') :
    wpAny (model P w) A (call (.builtin "sorted") [.ref a]) Q E s := by
  obtain ⟨o, es, ep, t, ho, hex, hd, g, nd, hm, hb, hf, hn, hr, hl⟩ := R
  refine Calls.call_function_entry kind_sorted plain_sorted entry_sorted (args_sorted1 _) ?_
  unfold Builtin.«sorted»
  refine wpAny_bind (m := checkCount "sorted" 1 1 _) (wpAny_pure ?_)
  refine wpAny_bind (collect_set (A := A.in1) hh ⟨o, ho, hex.1, hd⟩ hf hb hr hl fun s1 vs k1 hz g1 o1 pm => ?_)
  have hvl : vs.length = n := by rw [pm.length_eq, List.length_map, Array.length_toList]; exact hn
  have hI : StrsAre vs (vs.map valS) := strs_ofS vs fun v hv => by
    obtain ⟨e, he, q⟩ := List.mem_map.mp (pm.mem_iff.mp hv)
    obtain ⟨k, tk, h1, _⟩ := g e he
    exact ⟨k, tk, by rw [← q]; exact h1⟩
  have pk : (vs.map valS).Perm (es.toList.map keyS) := by
    have q := pm.map valS
    rw [List.map_map] at q
    exact q
  refine wpAny_bind (wpAny_newList ?_ (by rw [hvl, sizeLine_eq]; omega))
  have hoL : (s1.heap.push (seqObj "list" vs.toArray 0)).get? s1.heap.objs.size = some (seqObj "list" vs.toArray 0) := Heap.get?_push_size _ rfl
  refine wpAny_bind (wpAny_holding (wpAny_call_entry slot_list_sort ⟨_, hoL, rfl⟩ entry_list_sort (list_sort_str hoL hI (by rw [hvl, sizeLine_eq]; omega) fun out ns' a1 a2 a3 => ⟨_, rfl, ?_⟩) (args_list_sort _)))
  obtain ⟨c, hc⟩ := sortedHeap_at (vs := vs) (out := out) hoL
  have pn : ns'.Perm (es.toList.map keyS) := a2.trans pk
  refine wpAny_pure ⟨_, rfl, hQ _ s1.heap.objs.size out c ns' (fun b u e => ?_) g1 o1 hz hc a1 a3 (pn.nodup_iff.mpr nd) (fun k => by rw [pn.mem_iff, ← hm k]) ?_⟩
  · have q := k1 b u e
    have hlt := Heap.lt_size q
    show (sortedHeap (s1.heap.push (seqObj "list" vs.toArray 0)) s1.heap.objs.size vs out).get? b = some u
    rw [sortedHeap_old (Nat.ne_of_lt hlt) (by rw [size_push']; exact Nat.lt_succ_of_lt hlt)]
    exact Heap.get?_push_of_some _ q
  · rw [pn.length_eq, List.length_map, Array.length_toList]; exact hn
end
end DlS

/-! ## {e for x in .. for y in ..}, e a text -/
namespace DlS
open PySem PySem.Spec PyProof.Rows L2
section
variable {P : Program} {w : World} {A : Around} {E : Value → Shared → Prop} {s : Shared}
theorem setS_fresh {h : Heap} (w : World) : SetS w (h.push { cls := .type "set", dict := none, data := .set #[] 0 (.fresh 0 0 (!w.params.followText "set-order")) }) h.objs.size (fun _ => false) 0 :=
  ⟨_, #[], 0, _, Heap.get?_push_size _ rfl, ⟨rfl, rfl, rfl⟩, rfl, (fun e he => by simp at he), (by simp), (fun k => by simp), (by decide), (by rfl), rfl, List.Pairwise.nil, by
    show _ ∨ (!w.params.followText "set-order") = true
    cases w.params.followText "set-order"
    · exact .inr rfl
    · exact .inl rfl⟩

end
/-- the set of truth values at a -/
def SetSO (w : World) (a : Addr) (S : Str → Bool) (n : Nat) : HO := .ext fun h => SetS w h a S n
theorem setSO_new {w : World} {P : Program} {H : Hp} {h : Heap} {a : Addr} {S : Str → Bool} {n : Nat} (R : SetS w h a S n) : ObjOk P w H h a (SetSO w a S n) := by
  have ⟨o, _, _, _, ho, _⟩ := R
  exact ⟨R, ⟨o, ho⟩, fun h1 h2 p k => SetS.at p k⟩
section
variable {X : Cx}
theorem setSO_get {pins : List (Addr × Obj)} {σ : L2.St} {H : Hp} {s : Shared} {a : Addr} {S : Str → Bool} {n : Nat} (I : Inv X pins σ H s) (ha : H a = some (SetSO X.w a S n)) : SetS X.w s.heap a S n := (I.hok a _ ha).1
/-- set.add of a truth value -/
theorem addS_ok {pins : List (Addr × Obj)} {σ : L2.St} {H : Hp} {s : Shared} {E : Value → Shared → Prop} {D : Addr} {S : Str → Bool} {n : Nat} {y : Str} {tk : Tok} {Q : Value → Shared → Prop} (I : Inv X pins σ H s) (hD : H D = some (SetSO X.w D S n)) (room : n + 1 < scanBound)
    (h : ∀ s', Inv X pins σ (upd H D (SetSO X.w D (fun j => S j || decide (j = y)) (if S y = true then n else n + 1))) s' → Q .none s') : wpAny (model X.prog X.w) X.A (call (.builtin "set.add") [.ref D, .str y tk]) Q E s := by
  have R := setSO_get I hD
  refine setS_add R room fun h' sb new => ?_
  have he : ∃ u, h'.get? D = some u := by
    have ⟨o, _, _, _, ho, _⟩ := new
    exact ⟨o, ho⟩
  exact h _ (I.write (e := D) (t' := s.toks + 1) (by rw [hD]; trivial) (.inl rfl) (fun b u hb hu => (sb.2 b hb).trans hu) he (setSO_new new))

end
theorem compTurn2S_out (elt t0 i0 t1 i1 : Expr) (ifs0 ifs1 : List Expr) (scope : Scope) (pos : Pos) (it acc : Value) (env : Env) :
    compTurn (.SetComp elt [⟨t0, i0, ifs0, 0⟩, ⟨t1, i1, ifs1, 0⟩] scope pos) 0 it acc env = (do
      standAt i0.pos
      match ← pyNext it with
      | none => pure (.done .next)
      | some v =>
        letOwnedTupleGo t0 it v
        assign t0 env v
        let mut ok := true
        for c in ifs0 do
          if ok then ok ← isTrue c env (eval c env)
        if ok then
          let x ← eval i1 env
          standAt i1.pos
          let x ← foldedSetIterable i1 env x
          let _ ← runOwn (.compStart (.SetComp elt [⟨t0, i0, ifs0, 0⟩, ⟨t1, i1, ifs1, 0⟩] scope pos) 1 (← holding [x] (pyIter x)) acc env) env
        again (.compLoop (.SetComp elt [⟨t0, i0, ifs0, 0⟩, ⟨t1, i1, ifs1, 0⟩] scope pos) 0 it acc env)) := by rfl
theorem compTurn2S_in (elt t0 i0 t1 i1 : Expr) (ifs0 ifs1 : List Expr) (scope : Scope) (pos : Pos) (it acc : Value) (env : Env) :
    compTurn (.SetComp elt [⟨t0, i0, ifs0, 0⟩, ⟨t1, i1, ifs1, 0⟩] scope pos) 1 it acc env = (do
      standAt i1.pos
      match ← pyNext it with
      | none => pure (.done .next)
      | some v =>
        letOwnedTupleGo t1 it v
        assign t1 env v
        let mut ok := true
        for c in ifs1 do
          if ok then ok ← isTrue c env (eval c env)
        if ok then
          (do let v ← eval elt env; standAt elt.pos; let _ ← call (.builtin "set.add") [acc, v])
        again (.compLoop (.SetComp elt [⟨t0, i0, ifs0, 0⟩, ⟨t1, i1, ifs1, 0⟩] scope pos) 1 it acc env)) := by rfl

section
variable {prog : Program} {w : World} {A : Around} {R : Result → Shared → Prop} {s : Shared} {elt t0 i0 t1 i1 : Expr} {ifs0 ifs1 : List Expr} {scope : Scope} {pos : Pos} {it acc : Value} {env : Env}
/-- the loop of the first clause -/
theorem compLoop2S_out (hs : ∀ x, foldedSetIterable i1 env x = pure x) (I : Nat → Shared → Prop)
    (turn : ∀ n s, I n s → wpAny (model prog w) A (pyNext it) (fun r s₁ => match r with
      | none => R (.ok .next) s₁
      | some v => wpAny (model prog w) A (letOwnedTupleGo t0 it v) (fun _ s₁' => wpAny (model prog w) A (assign t0 env v) (fun _ s₂ =>
          wpAny (model prog w) A (forIn ifs0 true fun c r => if r = true then do let ok ← isTrue c env (eval c env); pure (ForInStep.yield ok) else pure (ForInStep.yield r)) (fun ok s₃ =>
            if ok = true then wpAny (model prog w) A (eval i1 env) (fun x s₄ => wpAny (model prog w) A (pyIter x) (fun it1 s₅ =>
              codeAny (model prog w) A (.compStart (.SetComp elt [⟨t0, i0, ifs0, 0⟩, ⟨t1, i1, ifs1, 0⟩] scope pos) 1 it1 acc env) (fun r s' => match r with
                | .ok _ => ∃ m, m < n ∧ I m s'
                | .error _ => False) s₅) (notedBy (model prog w) A env fun e s' => R (.error e) s') s₄) (notedBy (model prog w) A env fun e s' => R (.error e) s') s₃
            else ∃ m, m < n ∧ I m s₃) (notedBy (model prog w) A env fun e s' => R (.error e) s') s₂) (notedBy (model prog w) A env fun e s' => R (.error e) s') s₁') (notedBy (model prog w) A env fun e s' => R (.error e) s') s₁) (notedBy (model prog w) A env fun e s' => R (.error e) s') s)
    (n : Nat) (h : I n s) :
    codeAny (model prog w) A (.compLoop (.SetComp elt [⟨t0, i0, ifs0, 0⟩, ⟨t1, i1, ifs1, 0⟩] scope pos) 0 it acc env) R s := by
  refine codeAny_loop rfl I (fun n s hI => ?_) n h
  show wpAny _ A ((compTurn (.SetComp elt [⟨t0, i0, ifs0, 0⟩, ⟨t1, i1, ifs1, 0⟩] scope pos) 0 it acc env).onRaise (fun x => do noteFrame x env; theTreesLotGoes x)) _ _ s
  refine wpAny_noted ?_
  rw [compTurn2S_out]
  refine wpAny_bind (wpAny_standAt (wpAny_bind (wpAny_mono (turn n s hI) (fun r s₁ h₁ => ?_) fun _ _ h' => h')))
  cases r with
  | none => exact wpAny_pure h₁
  | some v =>
    refine wpAny_bind (wpAny_mono h₁ (fun _ s₁' h₁' => ?_) fun _ _ h' => h')
    refine wpAny_bind (wpAny_mono h₁' (fun _ s₂ h₂ => wpAny_bind (wpAny_mono h₂ (fun ok s₃ h₃ => ?_) fun _ _ h' => h')) fun _ _ h' => h')
    cases ok with
    | false => exact wpAny_pure ⟨rfl, h₃⟩
    | true =>
      refine wpAny_bind (wpAny_mono h₃ (fun x s₄ h₄ => ?_) fun _ _ h' => h')
      refine wpAny_bind (wpAny_standAt (wpAny_bind (wpAny_of_eq (hs x) (wpAny_bind (wpAny_holding (wpAny_mono h₄ (fun it1 s₅ h₅ => ?_) fun _ _ h' => h'))))))
      refine wpAny_bind (wpAny_runOwn ?_)
      rw [Around.mark_none]
      refine codeAny_mono h₅ fun r s' hr => ?_
      cases r with
      | ok f =>
        first
          | exact wpAny_pure ⟨rfl, hr⟩
          | exact wpAny_bind (wpAny_pure (wpAny_pure ⟨rfl, hr⟩))
      | error e => exact hr.elim
/-- the loop of the second -/
theorem compLoop2S_in (I : Nat → Shared → Prop)
    (turn : ∀ n s, I n s → wpAny (model prog w) A (pyNext it) (fun r s₁ => match r with
      | none => R (.ok .next) s₁
      | some v => wpAny (model prog w) A (letOwnedTupleGo t1 it v) (fun _ s₁' => wpAny (model prog w) A (assign t1 env v) (fun _ s₂ =>
          wpAny (model prog w) A (forIn ifs1 true fun c r => if r = true then do let ok ← isTrue c env (eval c env); pure (ForInStep.yield ok) else pure (ForInStep.yield r)) (fun ok s₃ =>
            if ok = true then wpAny (model prog w) A (eval elt env) (fun x s₄ =>
              wpAny (model prog w) A (call (.builtin "set.add") [acc, x]) (fun _ s₅ => ∃ m, m < n ∧ I m s₅) (notedBy (model prog w) A env fun e s' => R (.error e) s') s₄) (notedBy (model prog w) A env fun e s' => R (.error e) s') s₃
            else ∃ m, m < n ∧ I m s₃) (notedBy (model prog w) A env fun e s' => R (.error e) s') s₂) (notedBy (model prog w) A env fun e s' => R (.error e) s') s₁') (notedBy (model prog w) A env fun e s' => R (.error e) s') s₁) (notedBy (model prog w) A env fun e s' => R (.error e) s') s)
    (n : Nat) (h : I n s) :
    codeAny (model prog w) A (.compLoop (.SetComp elt [⟨t0, i0, ifs0, 0⟩, ⟨t1, i1, ifs1, 0⟩] scope pos) 1 it acc env) R s := by
  refine codeAny_loop rfl I (fun n s hI => ?_) n h
  show wpAny _ A ((compTurn (.SetComp elt [⟨t0, i0, ifs0, 0⟩, ⟨t1, i1, ifs1, 0⟩] scope pos) 1 it acc env).onRaise (fun x => do noteFrame x env; theTreesLotGoes x)) _ _ s
  refine wpAny_noted ?_
  rw [compTurn2S_in]
  refine wpAny_bind (wpAny_standAt (wpAny_bind (wpAny_mono (turn n s hI) (fun r s₁ h₁ => ?_) fun _ _ h' => h')))
  cases r with
  | none => exact wpAny_pure h₁
  | some v =>
    refine wpAny_bind (wpAny_mono h₁ (fun _ s₁' h₁' => ?_) fun _ _ h' => h')
    refine wpAny_bind (wpAny_mono h₁' (fun _ s₂ h₂ => wpAny_bind (wpAny_mono h₂ (fun ok s₃ h₃ => ?_) fun _ _ h' => h')) fun _ _ h' => h')
    cases ok with
    | false => exact wpAny_pure ⟨rfl, h₃⟩
    | true =>
      exact wpAny_bind (wpAny_bind (wpAny_mono h₃ (fun x s₄ h₄ => wpAny_bind (wpAny_standAt (wpAny_bind (wpAny_mono h₄ (fun _ s₅ h₅ => wpAny_pure (wpAny_pure ⟨rfl, h₅⟩)) fun _ _ h' => h')))) fun _ _ h' => h'))
/-- the second clause's start -/
theorem compStart1S_ok (h0 : codeAny (model prog w) A (.compLoop (.SetComp elt [⟨t0, i0, ifs0, 0⟩, ⟨t1, i1, ifs1, 0⟩] scope pos) 1 it acc env) R s)
    (h : wpAny (model prog w) A (pyIter it) (fun it' s' => codeAny (model prog w) A (.compLoop (.SetComp elt [⟨t0, i0, ifs0, 0⟩, ⟨t1, i1, ifs1, 0⟩] scope pos) 1 it' acc env) R s')
      (notedBy (model prog w) A env fun x s' => R (.error x) s') s) :
    codeAny (model prog w) A (.compStart (.SetComp elt [⟨t0, i0, ifs0, 0⟩, ⟨t1, i1, ifs1, 0⟩] scope pos) 1 it acc env) R s := by
  refine codeAny_of_tree ?_
  show wpAny _ _ ((compStart (.SetComp elt [⟨t0, i0, ifs0, 0⟩, ⟨t1, i1, ifs1, 0⟩] scope pos) 1 it acc env).onRaise (fun x => do noteFrame x env; standAt theWindowsPlace)) _ _ s
  refine wpAny_notedAt ?_
  unfold compStart
  show wpAny _ _ (ask >>= _) _ _ s
  refine wpAny_bind (wpAny_askSetting (wpAny_ite ?_))
  split
  · first
      | exact wpAny_bind (wpAny_pure (wpAny_pure (And.intro rfl h0)))
      | exact wpAny_pure (And.intro rfl h0)
  · first
      | exact wpAny_bind (wpAny_rule (wpAny_bind (wpAny_standAt (wpAny_bind (wpAny_mono h (fun it' s' h' => wpAny_pure (And.intro rfl h')) fun _ _ x => x)))))
      | (refine wpAny_bind (wpAny_rule ?_); show wpAny _ _ (standAt i1.pos >>= _) _ _ s; exact wpAny_bind (wpAny_standAt (wpAny_bind (wpAny_mono h (fun it' s' h' => wpAny_pure (And.intro rfl h')) fun _ _ x => x))))
end

section
variable {X : Cx}
/-- [elt for tg in iter if .. for tg1 in iter1 if ..]: behind the first clause's store and tests the second source's own loop, from which Nx is reached. vs: the block's names; vs1: those of the second target -/
def tSc2 (w : World) (wi : TI) (g : TG) (tt : TT) (wi1 : TI) (g1 : TG) (tt1 : TT) (te : TE) (vs vs1 : List Nat) : TE := fun σ H Q => wi σ H fun J H1 => ∀ D, H1 D = none → ∃ W : Nat → Nat → Hp → Prop, (∃ m, W 0 m (upd H1 D (SetSO w D (fun _ => false) 0))) ∧ ∀ i m H, W i m H →
  (J.stop i H ∧ Q (.ref D) H) ∨ (J.go i H ∧ ∃ Nx : Hp → Prop, (∀ H', Nx H' → ∃ m', m' < m ∧ W (i + 1) m' H') ∧ ∀ x H', J.yld i H x H' → g x (wipe σ vs) H' fun σ2 H2 => wipe σ2 vs = wipe σ vs ∧ tt σ2 H2 fun b H3 =>
    if b = true then wi1 σ2 H3 fun J1 H4 => ∃ W1 : Nat → Nat → Hp → Prop, (∃ m, W1 0 m H4) ∧ ∀ j k H, W1 j k H →
      (J1.stop j H ∧ Nx H) ∨ (J1.go j H ∧ ∃ Nx1 : Hp → Prop, (∀ H', Nx1 H' → ∃ k', k' < k ∧ W1 (j + 1) k' H') ∧ ∀ x H', J1.yld j H x H' → g1 x (wipe σ2 vs1) H' fun σ3 H5 => wipe σ3 vs1 = wipe σ2 vs1 ∧ tt1 σ3 H5 fun b H6 =>
        if b = true then te σ3 H6 fun y H7 => ∃ (c : Str) (S : Str → Bool) (n : Nat), y = .str c ∧ H7 D = some (SetSO w D S n) ∧ n + 1 < scanBound ∧ Nx1 (upd H7 D (SetSO w D (fun j => S j || decide (j = c)) (if S c = true then n else n + 1))) else Nx1 H6)
    else Nx H3)
theorem sc2_core {pins : List (Addr × Obj)} {s : Shared} {σ : L2.St} {H : Hp} {Q : VK} {elt tg iter tg1 iter1 : Expr} {ifs ifs1 : List Expr} {scope : Scope} {own : List (Str × Nat)} {vs1 : List Nat} {pos pos' : Pos} {wi wi1 : TI} {g g1 : TG} {tt tt1 : TT} {te : TE} {use : Option (Value → Sem Unit)} {Qf : Value → Shared → Prop}
    (hc : X.calm = true) (hN : X.N.Nodup) (I : Inv X pins σ H s) (hi : PI X tg iter wi) (ok : BlkOk X.N X.env.scope scope own) (hv : ∀ i ∈ vs1, i ∈ own.map (·.2))
    (hg : ∀ (s : Shared) (H : Hp) (C : Addr) (cl : List (Str × Addr)) (fp : List Addr), PG (X.blk s H scope (compEnvC scope cl C X.env) fp) tg g) (ht : ∀ (s : Shared) (H : Hp) (C : Addr) (cl : List (Str × Addr)) (fp : List Addr), PTs (X.blk s H scope (compEnvC scope cl C X.env) fp) ifs tt)
    (he : ∀ (s : Shared) (H : Hp) (C : Addr) (cl : List (Str × Addr)) (fp : List Addr), PE (X.blk s H scope (compEnvC scope cl C X.env) fp) elt te) (hs : ∀ x, foldedSetIterable iter X.env x = pure x)
    (hi1 : ∀ (s : Shared) (H : Hp) (C : Addr) (cl : List (Str × Addr)) (fp : List Addr), PI (X.blk s H scope (compEnvC scope cl C X.env) fp) tg1 iter1 wi1)
    (hg1 : ∀ (s : Shared) (H : Hp) (C : Addr) (cl : List (Str × Addr)) (fp : List Addr), PG (X.blk s H scope (compEnvC scope cl C X.env) fp) tg1 g1)
    (ht1 : ∀ (s : Shared) (H : Hp) (C : Addr) (cl : List (Str × Addr)) (fp : List Addr), PTs (X.blk s H scope (compEnvC scope cl C X.env) fp) ifs1 tt1)
    (hs1 : ∀ env x, foldedSetIterable iter1 env x = pure x)
    (h : tSc2 X.w wi g tt wi1 g1 tt1 te (own.map (·.2)) vs1 σ H Q)
    (hRR : ∀ D C s' m H', Inv X pins σ H' s' → Q (.ref D) H' → s'.heap.Ns C m → FpOk X pins H' C → compPost (model X.prog X.w) X.A X.xe use Qf (.ref D) C (.ok .next) s') :
    wpAny (model X.prog X.w) X.A (comprehension (.SetComp elt [⟨tg, iter, ifs, 0⟩, ⟨tg1, iter1, ifs1, 0⟩] scope pos) scope X.env pos' (newSet (.type "set")) false (eval iter X.env) use) Qf X.xe s := by
  have hfree : ∀ y ∈ scope.names, y.2 = .free → ∃ c, X.env.cells.lookup y.1 = some c := fun y hy e => by
    rcases ok.free y hy e with k | k
    · exact I.ok.has _ (.inl k)
    · exact I.ok.has _ (.inr k)
  refine wpAny_comprehension_free (use := use) rfl hs (closure_ok hfree) ok.kind (fun y hy e => by rw [ok.uniq y hy, e])
    (thn (hi.run pins s σ H _ I h) fun xv s1 hx => thn hx fun itv s2 h2 => ?_)
  obtain ⟨it, fp, tn, J, H2, e, I2, T, st2, f2, q⟩ := h2
  subst e
  refine PpSet.newSet_ok (newEnv_comp ?_)
  generalize hD : s2.heap.objs.size = D
  have hDn : H2 D = none := I2.hok.fresh (Nat.le_of_eq hD)
  obtain ⟨W, ⟨m0, w0⟩, turn⟩ := q D hDn
  -- the new list
  generalize hs3 : ({ s2 with heap := s2.heap.push { cls := .type "set", dict := none, data := .set #[] 0 (.fresh 0 0 (!X.w.params.followText "set-order")) } } : Shared) = s3
  have I3 : Inv X pins σ (upd H2 D (SetSO X.w D (fun _ => false) 0)) s3 := by
    rw [← hs3]
    refine I2.laid (t' := s2.toks) (fun b o e => Heap.get?_push_of_some _ e) (Nat.le_of_eq hD) ?_
    rw [← hD]
    exact setSO_new (setS_fresh X.w)
  have h3 : s3.heap = s2.heap.push { cls := .type "set", dict := none, data := .set #[] 0 (.fresh 0 0 (!X.w.params.followText "set-order")) } := by rw [← hs3]
  have sz : ∀ b ∈ fp, b < s2.heap.objs.size := fun b hb => by
    obtain ⟨o, e, _⟩ := T.obj _ _ st2 b hb
    exact Heap.lt_size e
  have f3 : ∀ b ∈ fp, FpOk X pins (upd H2 D (SetSO X.w D (fun _ => false) 0)) b ∧ b < s3.heap.objs.size := fun b hb => by
    have hlt := sz b hb
    refine ⟨⟨?_, (f2 b hb).2⟩, by rw [h3, Heap.size_push]; exact Nat.lt_succ_of_lt hlt⟩
    rw [upd_ne (by rw [← hD]; exact Nat.ne_of_lt hlt)]
    exact (f2 b hb).1
  have st3 : tn 0 s3.heap := T.keep _ _ _ st2 fun b _ o e => by rw [h3]; exact Heap.get?_push_of_some _ e
  have I4 := block_start I3 ok hN f3
  have pg := hg s3 (upd H2 D (SetSO X.w D (fun _ => false) 0)) s3.heap.objs.size (cellsFrom (s3.heap.objs.size + 1) scope.names (cloFrom X.env.cells scope.names [])) fp
  have pt := ht s3 (upd H2 D (SetSO X.w D (fun _ => false) 0)) s3.heap.objs.size (cellsFrom (s3.heap.objs.size + 1) scope.names (cloFrom X.env.cells scope.names [])) fp
  have pe := he s3 (upd H2 D (SetSO X.w D (fun _ => false) 0)) s3.heap.objs.size (cellsFrom (s3.heap.objs.size + 1) scope.names (cloFrom X.env.cells scope.names [])) fp
  have pi1 := hi1 s3 (upd H2 D (SetSO X.w D (fun _ => false) 0)) s3.heap.objs.size (cellsFrom (s3.heap.objs.size + 1) scope.names (cloFrom X.env.cells scope.names [])) fp
  have pg1 := hg1 s3 (upd H2 D (SetSO X.w D (fun _ => false) 0)) s3.heap.objs.size (cellsFrom (s3.heap.objs.size + 1) scope.names (cloFrom X.env.cells scope.names [])) fp
  have pt1 := ht1 s3 (upd H2 D (SetSO X.w D (fun _ => false) 0)) s3.heap.objs.size (cellsFrom (s3.heap.objs.size + 1) scope.names (cloFrom X.env.cells scope.names [])) fp
  show codeAny _ _ (.compStart (.SetComp elt [⟨tg, iter, ifs, 0⟩, ⟨tg1, iter1, ifs1, 0⟩] scope pos) 0 (.ref it) (.ref D) (compEnvC scope (cellsFrom (s3.heap.objs.size + 1) scope.names (cloFrom X.env.cells scope.names [])) s3.heap.objs.size X.env)) (compPost (model X.prog X.w) X.A X.xe use Qf (.ref D) s3.heap.objs.size) { s3 with heap := pushCells (s3.heap.push { cls := .type "dict", data := .dict #[] }) scope.names }
  have nfp : ∀ b ∈ fp, (upd H2 D (SetSO X.w D (fun _ => false) 0)) b = none := fun b hb => (f3 b hb).1.1
  generalize hce : compEnvC scope (cellsFrom (s3.heap.objs.size + 1) scope.names (cloFrom X.env.cells scope.names [])) s3.heap.objs.size X.env = ce at I4 pg pt pe pi1 pg1 pt1 ⊢
  have cL : ce.locals = s3.heap.objs.size := by subst hce; rfl
  generalize hH3 : upd H2 D (SetSO X.w D (fun _ => false) 0) = H3 at I3 I4 pg pt pe pi1 pg1 pt1 w0 nfp f3
  generalize hs4 : ({ s3 with heap := pushCells (s3.heap.push { cls := .type "dict", data := .dict #[] }) scope.names } : Shared) = s4 at I4 ⊢
  have st4 : tn 0 s4.heap := T.keep _ _ _ st3 fun b _ o e => by rw [← hs4]; exact pushCells_keeps _ _ _ _ (Heap.get?_push_of_some _ e)
  have stat : ∀ {σ' : L2.St} {H' : Hp} {s' : Shared}, Inv (X.blk s3 H3 scope ce fp) [] σ' H' s' → (∀ b ∈ fp, H' b = none) → ∀ b ∈ fp, FpOk (X.blk s3 H3 scope ce fp) [] H' b := fun {σ' H' s'} I' hn b hb =>
    ⟨hn b hb, (I'.ok.exf b hb).1, I'.ok.exfs b hb, .inl hb, fun x c e => (I'.ok.exf b hb).2 x c e, fun p hp => absurd (show p ∈ ([] : List (Addr × Obj)) ++ [] from hp) (by simp)⟩
  have loop : codeAny (model X.prog X.w) X.A (.compLoop (.SetComp elt [⟨tg, iter, ifs, 0⟩, ⟨tg1, iter1, ifs1, 0⟩] scope pos) 0 (.ref it) (.ref D) ce) (compPost (model X.prog X.w) X.A X.xe use Qf (.ref D) s3.heap.objs.size) s4 := by
    refine compLoop2S_out (hs1 ce) (fun n s' => ∃ i H', Inv (X.blk s3 H3 scope ce fp) [] (wipe σ (own.map (·.2))) H' s' ∧ tn i s'.heap ∧ (∀ b ∈ fp, H' b = none) ∧ W i n H') ?_ m0 ⟨0, H3, I4, st4, nfp, w0⟩
    rintro n s5 ⟨i, H5, I5, st5, n5, w5⟩
    rcases turn i n H5 w5 with ⟨stop, qq⟩ | ⟨go, Nx, hNx, step⟩
    · have td := T.done (X.blk s3 H3 scope ce fp) rfl rfl rfl hc i [] s5 _ H5 (fun _ _ => False) I5 (stat I5 n5) st5 stop
      refine thnF td fun r s6 ⟨hr, I6⟩ => ?_
      subst hr
      -- back in the def's context
      have I7 : Inv X pins σ H5 s6 := I3.call' (ch := fp) I6.os I6.base I6.hok I6.bare fun b hb => ⟨(f3 b hb).1.2.2.2.1, (f3 b hb).1.2.1, (f3 b hb).1.2.2.2.2.1, (f3 b hb).1.2.2.2.2.2⟩
      have nC : H5 s3.heap.objs.size = none := by
        have z : H5 ce.locals = none := I6.free
        rw [cL] at z
        exact z
      obtain ⟨m, hn, _⟩ := I6.loc
      have hn : s6.heap.Ns ce.locals m := hn
      rw [cL] at hn
      exact hRR D s3.heap.objs.size s6 m H5 I7 qq hn (I3.fpOk (Nat.le_refl _) nC)
    · have ti := T.item (X.blk s3 H3 scope ce fp) rfl rfl rfl hc i [] s5 _ H5 (fun _ _ => False) I5 (stat I5 n5) st5 go
      refine thnF ti fun r s6 ⟨u, hr, h6⟩ => ?_
      subst hr
      refine thnF h6 fun _ s7 ⟨x, H7, I7, r7, y7, st7, n7⟩ => ?_
      have I7' := I7.pinned (stat I7 n7) (T.obj _ _ st7)
      refine thnF (pg.run _ s7 _ H7 x u _ I7' r7 (step x H7 y7)) fun _ s8 ⟨σ8, H8, I8, hw8, q8⟩ => ?_
      refine thnF (pt.run _ s8 σ8 H8 _ I8 q8) fun b s9 ⟨H9, I9, q9⟩ => ?_
      -- the turn's end, from any slots that know what the block knew at its start
      have fin : ∀ {σ9 : L2.St} {s' : Shared} {H' : Hp}, Inv (X.blk s3 H3 scope ce fp) ([] ++ pinsAt fp s7.heap) σ9 H' s' → (wipe σ (own.map (·.2))).length = σ9.length → (∀ (j : Nat) v, (wipe σ (own.map (·.2)))[j]? = some (some v) → σ9[j]? = some (some v)) → Nx H' →
          ∃ m, m < n ∧ ∃ i H', Inv (X.blk s3 H3 scope ce fp) [] (wipe σ (own.map (·.2))) H' s' ∧ tn i s'.heap ∧ (∀ b ∈ fp, H' b = none) ∧ W i m H' := fun {σ9 s' H'} I' hl hk nx => by
        obtain ⟨m', hm, w'⟩ := hNx H' nx
        have pin' : ∀ b ∈ fp, ∀ o, s7.heap.get? b = some o → s'.heap.get? b = some o ∧ H' b = none := fun b hb o e =>
          let z := I'.pin (b, o) (List.mem_append_right _ (List.mem_append_right _ (mem_pinsAt hb e)))
          ⟨z.1, z.2.1⟩
        refine ⟨m', hm, i + 1, H', (I'.unpinned (pins := [])).weak hl hk, T.keep _ _ _ st7 fun b hb o e => (pin' b hb o e).1, fun b hb => ?_, w'⟩
        obtain ⟨o, e, _⟩ := T.obj _ _ st7 b hb
        exact (pin' b hb o e).2
      have hl8 : (wipe σ (own.map (·.2))).length = σ8.length := by rw [← hw8, wipe_length]
      have hk8 : ∀ (j : Nat) v, (wipe σ (own.map (·.2)))[j]? = some (some v) → σ8[j]? = some (some v) := fun j v e => by
        rw [← hw8] at e
        exact (wipe_some e).1
      have hk9 : ∀ (j : Nat) v, (wipe σ (own.map (·.2)))[j]? = some (some v) → (wipe σ8 vs1)[j]? = some (some v) := fun j v e => by
        rw [← hw8] at e
        obtain ⟨e1, e2⟩ := wipe_some e
        rw [wipe_out fun z => e2 (hv j z)]
        exact e1
      cases b with
      | false =>
        simp only [Bool.false_eq_true, if_false] at q9 ⊢
        exact fin I9 hl8 hk8 q9
      | true =>
        simp only [if_true] at q9 ⊢
        refine thnF (pi1.run _ s9 σ8 H9 _ I9 q9) fun xv s10 hx => thnF hx fun itv s11 h11 => ?_
        obtain ⟨it1, fp1, tn1, J1, H11, e1, I11, T1, st11, f11, W1, ⟨m1, w1⟩, turn1⟩ := h11
        subst e1
        -- the inner loop
        have stat1 : ∀ {H' : Hp}, (∀ b ∈ fp1, H' b = none) → ∀ b ∈ fp1, FpOk (X.blk s3 H3 scope ce fp) ([] ++ pinsAt fp s7.heap) H' b := fun hn b hb => ⟨hn b hb, (f11 b hb).2⟩
        have loop1 : codeAny (model X.prog X.w) X.A (.compLoop (.SetComp elt [⟨tg, iter, ifs, 0⟩, ⟨tg1, iter1, ifs1, 0⟩] scope pos) 1 (.ref it1) (.ref D) ce)
            (fun r s' => match r with
              | .ok _ => ∃ m, m < n ∧ ∃ i H', Inv (X.blk s3 H3 scope ce fp) [] (wipe σ (own.map (·.2))) H' s' ∧ tn i s'.heap ∧ (∀ b ∈ fp, H' b = none) ∧ W i m H'
              | .error _ => False) s11 := by
          refine compLoop2S_in (fun k s' => ∃ j H', Inv (X.blk s3 H3 scope ce fp) ([] ++ pinsAt fp s7.heap) (wipe σ8 vs1) H' s' ∧ tn1 j s'.heap ∧ (∀ b ∈ fp1, H' b = none) ∧ W1 j k H') ?_ m1 ⟨0, H11, I11.weak (wipe_length _ _) (fun j v e => (wipe_some e).1), st11, fun b hb => (f11 b hb).1, w1⟩
          rintro k s12 ⟨j, H12, I12, st12, n12, w12⟩
          rcases turn1 j k H12 w12 with ⟨stop1, nx1⟩ | ⟨go1, Nx1, hNx1, step1⟩
          · refine thnF (T1.done (X.blk s3 H3 scope ce fp) rfl rfl rfl hc j _ s12 (wipe σ8 vs1) H12 (fun _ _ => False) I12 (stat1 n12) st12 stop1) fun r s13 ⟨hr, I13⟩ => ?_
            subst hr
            exact fin I13 (hl8.trans (wipe_length σ8 vs1).symm) hk9 nx1
          · refine thnF (T1.item (X.blk s3 H3 scope ce fp) rfl rfl rfl hc j _ s12 (wipe σ8 vs1) H12 (fun _ _ => False) I12 (stat1 n12) st12 go1) fun r s13 ⟨u1, hr, h13⟩ => ?_
            subst hr
            refine thnF h13 fun _ s14 ⟨x1, H14, I14, r14, y14, st14, n14⟩ => ?_
            have I14' := I14.pinned (stat1 n14) (T1.obj _ _ st14)
            refine thnF (pg1.run _ s14 (wipe σ8 vs1) H14 x1 u1 _ I14' r14 (step1 x1 H14 y14)) fun _ s15 ⟨σ15, H15, I15, hw15, q15⟩ => ?_
            refine thnF (pt1.run _ s15 σ15 H15 _ I15 q15) fun b1 s16 ⟨H16, I16, q16⟩ => ?_
            have fin1 : ∀ {s' : Shared} {H' : Hp}, Inv (X.blk s3 H3 scope ce fp) (([] ++ pinsAt fp s7.heap) ++ pinsAt fp1 s14.heap) σ15 H' s' → Nx1 H' → ∃ m, m < k ∧ ∃ j H', Inv (X.blk s3 H3 scope ce fp) ([] ++ pinsAt fp s7.heap) (wipe σ8 vs1) H' s' ∧ tn1 j s'.heap ∧ (∀ b ∈ fp1, H' b = none) ∧ W1 j m H' := fun {s' H'} I' nx => by
              obtain ⟨m', hm, w'⟩ := hNx1 H' nx
              have pin' : ∀ b ∈ fp1, ∀ o, s14.heap.get? b = some o → s'.heap.get? b = some o ∧ H' b = none := fun b hb o e =>
                let z := I'.pin (b, o) (List.mem_append_right _ (List.mem_append_right _ (mem_pinsAt hb e)))
                ⟨z.1, z.2.1⟩
              refine ⟨m', hm, j + 1, H', I'.unpinned.weak (by rw [← hw15, wipe_length]) (fun j v e => by rw [← hw15] at e; exact (wipe_some e).1), T1.keep _ _ _ st14 fun b hb o e => (pin' b hb o e).1, fun b hb => ?_, w'⟩
              obtain ⟨o, e, _⟩ := T1.obj _ _ st14 b hb
              exact (pin' b hb o e).2
            cases b1 with
            | false =>
              simp only [Bool.false_eq_true, if_false] at q16 ⊢
              exact fin1 I16 q16
            | true =>
              simp only [if_true] at q16 ⊢
              refine thnF (pe.run _ s16 σ15 H16 _ I16 q16) fun z s17 ⟨yv, H17, I17, r17, cb, S0, n0, ey, hD17, hz17, nx⟩ => ?_
              subst ey
              obtain ⟨tk, ez⟩ := r17
              subst ez
              exact addS_ok (X := X.blk s3 H3 scope ce fp) I17 hD17 hz17 fun s18 I18 => fin1 I18 nx
        exact compStart1S_ok loop1 (T1.self X.A 0 _ _ _ st11 loop1)
  exact PpSet.codeAny_compStart_set loop (T.self X.A 0 _ _ _ st4 loop)
/-- as a value -/
theorem pe_sc2 {elt tg iter tg1 iter1 : Expr} {ifs ifs1 : List Expr} {scope : Scope} {own : List (Str × Nat)} {vs1 : List Nat} {pos : Pos} {wi wi1 : TI} {g g1 : TG} {tt tt1 : TT} {te : TE} (hc : X.calm = true) (hN : X.N.Nodup) (hi : PI X tg iter wi) (ok : BlkOk X.N X.env.scope scope own) (hv : ∀ i ∈ vs1, i ∈ own.map (·.2))
    (hg : ∀ (s : Shared) (H : Hp) (C : Addr) (cl : List (Str × Addr)) (fp : List Addr), PG (X.blk s H scope (compEnvC scope cl C X.env) fp) tg g) (ht : ∀ (s : Shared) (H : Hp) (C : Addr) (cl : List (Str × Addr)) (fp : List Addr), PTs (X.blk s H scope (compEnvC scope cl C X.env) fp) ifs tt)
    (hi1 : ∀ (s : Shared) (H : Hp) (C : Addr) (cl : List (Str × Addr)) (fp : List Addr), PI (X.blk s H scope (compEnvC scope cl C X.env) fp) tg1 iter1 wi1)
    (hg1 : ∀ (s : Shared) (H : Hp) (C : Addr) (cl : List (Str × Addr)) (fp : List Addr), PG (X.blk s H scope (compEnvC scope cl C X.env) fp) tg1 g1) (ht1 : ∀ (s : Shared) (H : Hp) (C : Addr) (cl : List (Str × Addr)) (fp : List Addr), PTs (X.blk s H scope (compEnvC scope cl C X.env) fp) ifs1 tt1)
    (he : ∀ (s : Shared) (H : Hp) (C : Addr) (cl : List (Str × Addr)) (fp : List Addr), PE (X.blk s H scope (compEnvC scope cl C X.env) fp) elt te) (hs : ∀ x, foldedSetIterable iter X.env x = pure x := by intro _; rfl) (hs1 : ∀ env x, foldedSetIterable iter1 env x = pure x := by intro _ _; rfl) :
    PE X (.SetComp elt [⟨tg, iter, ifs, 0⟩, ⟨tg1, iter1, ifs1, 0⟩] scope pos) (tSc2 X.w wi g tt wi1 g1 tt1 te (own.map (·.2)) vs1) := by
  refine ⟨fun pins s σ H Q I h => ?_⟩
  rw [PpSet.eval_SetComp]
  refine sc2_core hc hN I hi ok hv hg ht he hs hi1 hg1 ht1 hs1 h fun D C s' m H' I' q hn f => ⟨m, hn, fun h'' sb => ?_⟩
  obtain ⟨f0, f1, f2, f3, f4, f5⟩ := f
  exact ⟨.ref D, H', I'.turned (t' := s'.toks) (fun b o hb e => (sb.2 b hb).trans e) f0 f1 f3 f4 f5, rfl, q⟩

end
end DlS

/-! ## sorted sets of texts in the logic -/
namespace Dl
open PySem PySem.Spec PyProof.Rows L2

/-! ### texts in order -/
def StrA (a b : Str) : Prop := a.cps.toList < b.cps.toList
def StrU (ns : List Str) : Prop := ns.Pairwise StrA
theorem str_inj {a b : Str} (h : a.cps.toList = b.cps.toList) : a = b := by
  obtain ⟨x⟩ := a
  obtain ⟨y⟩ := b
  have e : x = y := Array.toList_inj.mp h
  rw [e]
theorem strA_of {a b : Str} (h : ltCps b.cps.toList a.cps.toList = false) (hn : a ≠ b) : StrA a b := by
  rw [ltCps_eq] at h
  have h1 : ¬ b.cps.toList < a.cps.toList := of_decide_eq_false h
  have h2 : a.cps.toList ≤ b.cps.toList := List.not_lt.mp h1
  rcases Decidable.em (a.cps.toList < b.cps.toList) with z | z
  · exact z
  · exact absurd (str_inj (List.le_antisymm h2 (List.not_lt.mp z))) hn
theorem rising_nd : ∀ (p : Str) (r : List Str), risingS p r = true → (p :: r).Nodup → StrU (p :: r)
  | p, [], _, _ => List.pairwise_singleton ..
  | p, x :: r, h, nd => by
    unfold risingS at h
    rw [Bool.and_eq_true, Bool.not_eq_true'] at h
    have nd2 := (List.nodup_cons.mp nd).2
    have ih := rising_nd x r h.2 nd2
    have hpx : StrA p x := strA_of h.1 fun e => (List.nodup_cons.mp nd).1 (by rw [e]; exact List.mem_cons_self)
    refine List.pairwise_cons.mpr ⟨fun y hy => ?_, ih⟩
    rcases List.mem_cons.mp hy with e | e
    · rw [e]; exact hpx
    · exact List.lt_trans hpx ((List.pairwise_cons.mp ih).1 y e)
theorem sorted_nd : ∀ {ns : List Str}, sortedS ns = true → ns.Nodup → StrU ns
  | [], _, _ => .nil
  | p :: r, h, nd => rising_nd p r h nd
theorem strU_eq : ∀ {xs ys : List Str}, StrU xs → StrU ys → (∀ k, k ∈ xs ↔ k ∈ ys) → xs = ys
  | [], [], _, _, _ => rfl
  | [], y :: ys, _, _, h => absurd ((h y).mpr List.mem_cons_self) (by simp)
  | x :: xs, [], _, _, h => absurd ((h x).mp List.mem_cons_self) (by simp)
  | x :: xs, y :: ys, h1, h2, h => by
    have a1 := List.pairwise_cons.mp h1
    have a2 := List.pairwise_cons.mp h2
    have irr : ∀ k : Str, ¬ StrA k k := fun k => List.lt_irrefl _
    have e : x = y := by
      rcases List.mem_cons.mp ((h x).mp List.mem_cons_self) with z | z
      · exact z
      · rcases List.mem_cons.mp ((h y).mpr List.mem_cons_self) with z2 | z2
        · exact z2.symm
        · exact absurd (List.lt_trans (a2.1 x z) (a1.1 y z2)) (irr y)
    subst e
    have := strU_eq a1.2 a2.2 fun k => by
      constructor
      · intro m
        rcases List.mem_cons.mp ((h k).mp (List.mem_cons_of_mem _ m)) with z | z
        · exact absurd (a1.1 k m) (by rw [z]; exact irr _)
        · exact z
      · intro m
        rcases List.mem_cons.mp ((h k).mpr (List.mem_cons_of_mem _ m)) with z | z
        · exact absurd (a2.1 k m) (by rw [z]; exact irr _)
        · exact z
    rw [this]

section
variable {X : Cx}
/-- sorted(a set of texts) -/
def rSortedS (w : World) : List V → Hp → VK → Prop := fun vs H Q => ∃ (a : Addr) (S : Str → Bool) (n : Nat), vs = [V.ref a] ∧ H a = some (DlS.SetSO w a S n) ∧ n < 1000 ∧
  ∀ (ns : List Str) (p : Addr), StrU ns → (∀ k, k ∈ ns ↔ S k = true) → ns.length = n → H p = none → Q (.ref p) (upd H p (.lst (ns.map V.str)))
theorem cr_sortedS (hc : X.calm = true) : CallR X (.builtin "sorted") (rSortedS X.w) := by
  intro pins s σ H vs us Q I r h
  obtain ⟨a, S, n, rfl, ha, h64, q⟩ := h
  have R := DlS.setSO_get I ha
  rw [Vals.ref1 r]
  refine DlS.sorted_setS R (I.ok.hd hc) h64 fun s' p out c ns k g o hp hg hi hs nd hm hl => ?_
  have hlen : (ns.map V.str).length ≤ sizeLine := by rw [List.length_map, hl, sizeLine_eq]; omega
  have hn : H p = none := I.hok.fresh hp
  have J : Inv X pins σ (upd H p (.lst (ns.map V.str))) { s with heap := s'.heap, gens := s'.gens, drawn := s'.drawn, toks := s'.toks } :=
    I.call (ch := []) (Un.laid k hp hn) (I.hok.laid k hp ⟨hlen, out.toList, c, vals_of_strs hi, hg⟩) (by rw [g]; exact I.bare) (fun _ z => nomatch z)
  have e : s' = { s with heap := s'.heap, gens := s'.gens, drawn := s'.drawn, toks := s'.toks } := by
    cases s'
    cases s
    cases o
    rfl
  rw [e]
  exact ⟨.ref p, _, J, rfl, q ns p (sorted_nd hs nd) hm hl hn⟩
end

section
variable {K : PySem.W.Frag} {W : Fx} {ρ : List Sk} {wi wi1 : TI} {g g1 : TG} {vs vs1 : List Nat} {te : TE} {ds : List PyData}
/-- sorted({e for x in .. for y in ..}), e a text -/
theorem evf_sortS2 {w : World} {inn : PyData → List PyData} {f : PyData → PyData → Str} (hv : ∀ v ∈ vs, v < ρ.length) (hv1 : ∀ v ∈ vs1, v < ρ.length) (hI : EvI K W wi ρ (· = ds)) (hn : (ds.flatMap fun d => (inn d).map (f d)).length ≤ 900)
    (hs : ∀ d ∈ ds, ∃ ρ' js, (∀ j ∈ js, j ∈ vs) ∧ ρ'.length = ρ.length ∧ noOwn ρ' = true ∧ EvG K W g (wipeR ρ vs) d ρ' js ∧ EvI K W wi1 ρ' (· = inn d) ∧
      ∀ y ∈ inn d, ∃ ρ2 js2, (∀ j ∈ js2, j ∈ vs1) ∧ EvG K W g1 (wipeR ρ' vs1) y ρ2 js2 ∧ EvD K W te ρ2 (.str (f d y))) :
    EvF K W (tCB (rSortedS w) (tCons (DlS.tSc2 w wi g tYes wi1 g1 tYes te vs vs1) tNil)) ρ (fun es => ∃ ns : List Str, es = ns.map .str ∧ StrU ns ∧ ns.length ≤ (ds.flatMap fun d => (inn d).map (f d)).length ∧ ∀ k, k ∈ ns ↔ k ∈ ds.flatMap fun d => (inn d).map (f d)) := fun D0 H0 D H σ e Q q => by
  refine hI D0 H0 D H σ e _ fun J D1 H1 ds' s1 wk p => ?_
  subst p
  intro L hL
  have e1 := e.step s1
  have o1 := e1.ok
  have hHL : H L = none := fresh_of e.ok s1 hL
  have hwL : ¬ W.adr L := fun hw => W.has H1 L s1.inv hw hL
  let Sm (D2 H2 : Hp) (acc : List Str) : Prop := ∃ S n, Step W D1 H1 D2 H2 ∧ D2 L = none ∧ H2 L = some (DlS.SetSO w L S n) ∧ (∀ k, S k = true ↔ k ∈ acc) ∧ n ≤ acc.length
  let out (i : Nat) : List Str := (ds'.take i).flatMap fun d => (inn d).map (f d)
  have outs : ∀ {i : Nat} {d : PyData}, ds'[i]? = some d → out (i + 1) = out i ++ (inn d).map (f d) := fun {i d} h => by
    show (ds'.take (i + 1)).flatMap _ = (ds'.take i).flatMap _ ++ _
    rw [List.take_add_one, h, List.flatMap_append]
    simp
  have outle : ∀ {i : Nat} {d : PyData} (j : Nat), ds'[i]? = some d → (out i ++ ((inn d).take j).map (f d)).length ≤ 900 := fun {i d} j h => by
    refine Nat.le_trans ?_ hn
    have e1 : (ds'.flatMap fun d => (inn d).map (f d)) = out (i + 1) ++ (ds'.drop (i + 1)).flatMap fun d => (inn d).map (f d) := by
      show _ = (ds'.take (i + 1)).flatMap _ ++ _
      rw [← List.flatMap_append, List.take_append_drop]
    rw [e1, outs h, List.length_append, List.length_append, List.length_append, List.length_map, List.length_map, List.length_take]
    omega
  refine ⟨fun i m H2 => m = ds'.length - i ∧ i ≤ ds'.length ∧ ∃ D2, Sm D2 H2 (out i), ⟨_, rfl, Nat.zero_le _, D1, fun _ => false, 0, .keptH o1 (same_new hL), o1.sub.free hL, upd_same, fun k => ?_, Nat.zero_le _⟩, ?_⟩
  · show false = true ↔ k ∈ []
    simp
  rintro i m H2 ⟨rfl, hi, D2, S2, n2, s2, d2, l2, q2, z2⟩
  have e2 := e1.step s2
  by_cases hlt : i < ds'.length
  · have hd : ds'[i]? = some ds'[i] := List.getElem?_eq_getElem hlt
    generalize ds'[i] = d at hd
    obtain ⟨hgo, hy⟩ := (wk i D2 H2 e2.ok s2.gro).1 _ hd
    refine Or.inr ⟨hgo, fun H' => i + 1 ≤ ds'.length ∧ ∃ D2, Sm D2 H' (out (i + 1)), fun H' h' => ⟨_, by omega, rfl, h'⟩, fun x H3 y => ?_⟩
    obtain ⟨D3, s3, qx⟩ := hy x H3 y
    obtain ⟨ρ', js, hjs, hlen, hno, hg, hI1, hin⟩ := hs d (List.mem_of_getElem? hd)
    refine hg D0 H0 D3 H3 _ ((e2.step s3).wipe vs hv) x qx _ fun σ4 D4 H4 s4 e4 l4 c4 => ⟨?_, ?_⟩
    · rw [wipe_eq l4 hjs c4, wipe_idem]
    unfold tYes
    show (if true = true then _ else _)
    rw [if_pos rfl]
    refine hI1 D0 H0 D4 H4 σ4 e4 _ fun J1 D5 H5 es s5 wk1 p1 => ?_
    subst p1
    have sA : Step W D2 H2 D5 H5 := (s3.trans e2.ok s4).trans e2.ok s5
    have e5 := e4.step s5
    refine ⟨fun j k H6 => k = (inn d).length - j ∧ j ≤ (inn d).length ∧ ∃ D6, Same D5 D6 ∧ Sm D6 H6 (out i ++ ((inn d).take j).map (f d)), ⟨_, rfl, Nat.zero_le _, D5, Same.refl _, S2, n2, s2.trans o1 sA, sA.new L d2 (by rw [l2]; exact fun z => nomatch z) (by rw [l2]; exact fun _ z => nomatch z), sA.off L _ hwL l2, ?_, ?_⟩, ?_⟩
    · rw [List.take_zero, List.map_nil, List.append_nil]
      exact q2
    · rw [List.take_zero, List.map_nil, List.append_nil]
      exact z2
    rintro j k H6 ⟨rfl, hj, D6, g6, S6, n6, s6, d6, l6, q6, z6⟩
    have e6 : Env K W D0 H0 D6 H6 σ4 ρ' := e5.off hno (e1.st.trans e.ok0 s6) g6
    by_cases hjl : j < (inn d).length
    · have hz : (inn d)[j]? = some (inn d)[j] := List.getElem?_eq_getElem hjl
      generalize (inn d)[j] = z at hz
      obtain ⟨hgo1, hy1⟩ := (wk1 j D6 H6 e6.ok g6).1 _ hz
      refine Or.inr ⟨hgo1, fun H' => j + 1 ≤ (inn d).length ∧ ∃ D6, Same D5 D6 ∧ Sm D6 H' (out i ++ ((inn d).take (j + 1)).map (f d)), fun H' h' => ⟨_, by omega, rfl, h'⟩, fun x1 H7 y1 => ?_⟩
      obtain ⟨D7, s7, qx1⟩ := hy1 x1 H7 y1
      obtain ⟨ρ2, js2, hjs2, hg1, hte⟩ := hin z (List.mem_of_getElem? hz)
      refine hg1 D0 H0 D7 H7 _ ((e6.step s7).wipe vs1 (fun v h => by rw [hlen]; exact hv1 v h)) x1 qx1 _ fun σ8 D8 H8 s8 e8 l8 c8 => ⟨?_, ?_⟩
      · rw [wipe_eq l8 hjs2 c8, wipe_idem]
      show (if true = true then _ else _)
      rw [if_pos rfl]
      refine hte D0 H0 D8 H8 σ8 e8 _ fun v D9 H9 dv s9 qv pv => ?_
      subst pv
      cases qv
      have sB : Step W D6 H6 D9 H9 := (s7.trans e6.ok s8).trans e6.ok s9
      have l9 : H9 L = some (DlS.SetSO w L S6 n6) := sB.off L _ hwL l6
      have n9 : D9 L = none := sB.new L d6 (by rw [l6]; exact fun z => nomatch z) (by rw [l6]; exact fun _ z => nomatch z)
      have sC : Step W D1 H1 D9 H9 := s6.trans o1 sB
      have le6 := outle j hd
      refine ⟨f d z, S6, n6, rfl, l9, ?_, hjl, D9, g6.trans sB.gro, _, _, ⟨sC.gro, fun b u z => ?_, fun b u hw z => ?_, sC.new, ?_⟩, n9, upd_same, fun k => ?_, ?_⟩
      · unfold scanBound
        omega
      · rw [upd_ne (fun w => by rw [w, n9] at z; cases z)]
        exact sC.sub b u z
      · rw [upd_ne (fun w => by rw [w, hL] at z; cases z)]
        exact sC.off b u hw z
      · refine W.keep H9 _ sC.inv fun b u hb z => ?_
        rw [upd_ne (fun w => hwL (by rw [← w]; exact hb))]
        exact z
      · rw [List.take_add_one, hz]
        show (S6 k || decide (k = f d z)) = true ↔ k ∈ (out i ++ ((inn d).take j ++ [z]).map (f d))
        rw [List.map_append, ← List.append_assoc, List.mem_append, Bool.or_eq_true, q6 k, decide_eq_true_eq]
        simp
      · rw [List.take_add_one, hz]
        show _ ≤ (out i ++ ((inn d).take j ++ [z]).map (f d)).length
        rw [List.map_append, ← List.append_assoc, List.length_append]
        have : ([z].map (f d)).length = 1 := rfl
        rw [this]
        split <;> omega
    · have hje : j = (inn d).length := by omega
      subst hje
      refine Or.inl ⟨(wk1 _ D6 H6 e6.ok g6).2 (Nat.le_refl _), hlt, D6, S6, n6, s6, d6, l6, ?_⟩
      rw [outs hd]
      rw [List.take_length] at q6 z6
      exact ⟨q6, z6⟩
  · have hie : i = ds'.length := by omega
    subst hie
    refine Or.inl ⟨(wk _ D2 H2 e2.ok s2.gro).2 (Nat.le_refl _), ?_⟩
    have eo : out ds'.length = ds'.flatMap fun d => (inn d).map (f d) := by
      show (ds'.take ds'.length).flatMap _ = _
      rw [List.take_length]
    rw [eo] at q2 z2
    refine ⟨L, S2, n2, rfl, l2, by omega, fun ns p h1 h2 h3 hp => ?_⟩
    have sD := s1.trans e.ok s2
    have o2 := e2.ok
    exact q p _ D2 _ _ (sD.trans e.ok (.keptH o2 (same_new hp))) (fresh_of e.ok sD hp) (o2.sub.free hp) upd_same (DqA.strs ns) ⟨ns, rfl, h1, by rw [h3]; exact z2, fun k => (h2 k).trans (q2 k)⟩
end
end Dl

/-! ## dicts as data, sorted dicts, sorted lists of tuples of ints -/
namespace Dl
open PySem PySem.Spec PyProof.Rows L2

theorem kD_inj : ∀ {a b : Key}, kD a = kD b → a = b
  | .inl i, .inl j, h => by cases h; rfl
  | .inr i, .inr j, h => by cases h; rfl
  | .inl i, .inr j, h => by cases h
  | .inr i, .inl j, h => by cases h
/-- a dict as data -/
def dD (ks : List Key) (ds : List PyData) : PyData := .dict ((ks.map kD).zip ds)
/-- what it tells of a key -/
def lookK (ks : List Key) (ds : List PyData) (k : Key) : Option PyData := ((ks.zip ds).find? fun p => decide (p.1 = k)).map (·.2)
theorem dD_inj : ∀ {ks ks' : List Key} {ds ds' : List PyData}, ks.length = ds.length → ks'.length = ds'.length → (ks.map kD).zip ds = (ks'.map kD).zip ds' → ks = ks' ∧ ds = ds'
  | [], [], [], [], _, _, _ => ⟨rfl, rfl⟩
  | [], k :: ks, [], d :: ds, _, _, h => by cases h
  | k :: ks, [], d :: ds, [], _, _, h => by cases h
  | k :: ks, k' :: ks', d :: ds, d' :: ds', h1, h2, h => by
    rw [List.map_cons, List.map_cons, List.zip_cons_cons, List.zip_cons_cons] at h
    injection h with h3 h4
    injection h3 with h5 h6
    obtain ⟨e1, e2⟩ := dD_inj (by simpa using h1) (by simpa using h2) h4
    exact ⟨by rw [kD_inj h5, e1], by rw [h6, e2]⟩
theorem Dq.dD {K : PySem.W.Frag} {D : Hp} {v : V} {ks : List Key} {ds : List PyData} (hl : ks.length = ds.length) (h : Dq K D v (dD ks ds)) : ∃ (a : Addr) (xs : List V), v = .ref a ∧ FzK D a (ks.zip xs) ∧ DqA K D xs ds := by
  rcases Dq.dictI h with ⟨a, ks', xs, ds', e1, h1, h2, h3, h4⟩ | ⟨a, ks', xs, ds', e1, h1, h2, h3, h4⟩
  · obtain ⟨e2, e3⟩ := dD_inj hl (by rw [h2, h3.len]) h4
    subst e2 e3
    exact ⟨a, xs, e1, h1, h3⟩
  · cases ks with
    | nil =>
      cases ds with
      | cons d ds => cases hl
      | nil =>
        have hz : ((ks'.map tD).zip ds') = [] := h4.symm
        have hl' : ks' = [] := by
          cases ks' with
          | nil => rfl
          | cons k ks' =>
            have l3 := h3.len
            cases ds' with
            | nil =>
              rw [l3] at h2
              cases h2
            | cons d ds' => cases hz
        subst hl'
        have hx : xs = [] := List.length_eq_zero_iff.mp h2.symm
        subst hx
        exact ⟨a, [], e1, FzT.k0 h1, .nil⟩
    | cons k ks =>
      cases ds with
      | nil => cases hl
      | cons d ds =>
        cases ks' with
        | nil => cases h4
        | cons k' ks' =>
          cases ds' with
          | nil => cases h4
          | cons d' ds' =>
            rw [List.map_cons, List.map_cons, List.zip_cons_cons, List.zip_cons_cons] at h4
            injection h4 with h5 _
            injection h5 with h6 _
            cases k <;> cases h6
theorem valV_dq {K : PySem.W.Frag} {D : Hp} {k : Key} : ∀ {ks : List Key} {xs : List V} {ds : List PyData}, DqA K D xs ds → (valV (ks.zip xs) k = none ∧ lookK ks ds k = none) ∨ ∃ v d, valV (ks.zip xs) k = some v ∧ lookK ks ds k = some d ∧ Dq K D v d
  | [], _, _, _ => .inl ⟨rfl, rfl⟩
  | _ :: _, _, _, .nil => .inl ⟨rfl, rfl⟩
  | j :: ks, x :: xs, d :: ds, .cons h1 h2 => by
    by_cases e : j = k
    · refine .inr ⟨x, d, ?_, ?_, h1⟩
      · rw [List.zip_cons_cons, valV_pos (p := (j, x)) e]
      · unfold lookK
        rw [List.zip_cons_cons, List.find?_cons_of_pos (by simpa using e)]
        rfl
    · have e2 : lookK (j :: ks) (d :: ds) k = lookK ks ds k := by
        unfold lookK
        rw [List.zip_cons_cons, List.find?_cons_of_neg (by simpa using e)]
      rw [List.zip_cons_cons, valV_neg (p := (j, x)) e, e2]
      exact valV_dq h2

section
variable {K : PySem.W.Frag} {W : Fx} {EX : Hp → Prop} {ρ : List Sk} {td tk tx te : TE} {ks : List Key} {ds : List PyData} {k : Key} {d0 : PyData} {O : Out}
/-- d.get(k, x), d as data -/
theorem ev_getD (hl : ks.length = ds.length) (ha : EvD K W td ρ (dD ks ds)) (hk : EvD K W tk ρ (kD k)) (hd : EvD K W tx ρ d0) : EvD K W (tDGetG2 K td tk tx) ρ ((lookK ks ds k).getD d0) := fun D0 H0 D H σ e Q q =>
  ha D0 H0 D H σ e _ fun v D1 H1 d1 s1 q1 p1 => by
    subst p1
    obtain ⟨a, xs, e1, r1, r2⟩ := Dq.dD hl q1
    subst e1
    have o1 := s1.ok e.ok
    refine ⟨a, rfl, .inl ⟨_, same_rdK o1.sub r1.rd⟩, ?_⟩
    have e1 := e.step s1
    refine hk D0 H0 D1 H1 σ e1 _ fun y D2 H2 d2 s2 q2 p2 => ?_
    subst p2
    refine hd D0 H0 D2 H2 σ (e1.step s2) _ fun z D3 H3 d3 s3 q3 p3 => ?_
    subst p3
    have s23 := s2.trans e1.ok s3
    have o3 := s23.ok e1.ok
    have r3 : RdK H3 a (ks.zip xs) := same_rdK (s23.gro.trans o3.sub) r1.rd
    have sA := s1.trans e.ok s23
    refine ⟨_, .inl ⟨_, k, r3, kD_dq q2, rfl⟩, ?_⟩
    rcases valV_dq (k := k) (ks := ks) r2 with ⟨g1, g2⟩ | ⟨u, d, g1, g2, g3⟩
    · rw [g1]
      exact q _ D3 H3 _ sA q3 (by rw [g2]; rfl)
    · rw [g1]
      exact q _ D3 H3 _ sA (g3.up s23.gro) (by rw [g2]; rfl)
/-- d.get(k, x), d a dict of one's own -/
theorem ev_getKd {i : Nat} (hρ : ρ[i]? = some (.kd ks ds)) (hk : EvD K W tk ρ (kD k)) (hd : EvD K W tx ρ d0) : EvD K W (tDGetG2 K (tVar i) tk tx) ρ ((lookK ks ds k).getD d0) := fun D0 H0 D H σ e Q q => by
  obtain ⟨o, h1, l, xs, h2, h3, h4, h5, h6, h7⟩ := e.slot i _ hρ
  subst h2
  refine ⟨_, h1, l, rfl, .inl ⟨_, .inl (.inl h6)⟩, ?_⟩
  refine hk D0 H0 D H σ e _ fun y D2 H2 d2 s2 q2 p2 => ?_
  subst p2
  have e2 := e.step s2
  refine hd D0 H0 D2 H2 σ e2 _ fun z D3 H3 d3 s3 q3 p3 => ?_
  subst p3
  have s23 := s2.trans e.ok s3
  have r3 : H3 l = some (.dK (ks.zip xs)) := s23.off l _ h5 h6
  refine ⟨_, .inl ⟨_, k, .inl (.inl r3), kD_dq q2, rfl⟩, ?_⟩
  rcases valV_dq (k := k) (ks := ks) h7 with ⟨g1, g2⟩ | ⟨u, d, g1, g2, g3⟩
  · rw [g1]
    exact q _ D3 H3 _ s23 q3 (by rw [g2]; rfl)
  · rw [g1]
    exact q _ D3 H3 _ s23 (g3.up s23.gro) (by rw [g2]; rfl)
/-- sorted(d), all keys texts -/
def rSortDK : List V → Hp → VK → Prop := fun xs H Q => ∃ (a : Addr) (kvs : List (Key × V)) (ks : List Str), xs = [.ref a] ∧ RdK H a kvs ∧ kvs.map (·.1) = ks.map Sum.inr ∧ ks.length < 64 ∧
    ∀ ys p, ys.Perm ks → sortedS ys = true → H p = none → Q (.ref p) (upd H p (.lst (ys.map V.str)))
theorem cr_sortDK {X : Cx} (hcalm : X.calm = true) : CallR X (.builtin "sorted") rSortDK := by
  intro pins s σ H xs us Q I r q
  obtain ⟨a, kvs, ks, ex, hd, hks, h64, q⟩ := q
  subst ex
  obtain ⟨u, eu, rx⟩ := vals1 r
  subst eu
  cases rx
  obtain ⟨z, lo, vs, rel, dd⟩ := dkG_rd I.hok hd
  obtain ⟨ep, hat⟩ := dd.dictAt
  have hkeys : vs.map (·.1) = ks.map Sum.inr := rel.keys.symm.trans hks
  have hl : vs.length = ks.length := by
    have e := congrArg List.length hkeys
    rw [List.length_map, List.length_map] at e
    exact e
  have h16 : vs.length ≤ sizeLine := by rw [hl, sizeLine_eq]; omega
  refine Calls.call_function_entry PyProof.Rows.kind_sorted PyProof.Rows.plain_sorted PyProof.Rows.entry_sorted (PyProof.Rows.args_sorted1 _) ?_
  unfold Builtin.«sorted»
  refine wpAny_bind (m := checkCount "sorted" 1 1 _) (wpAny_pure ?_)
  refine wpAny_bind (PySem.W.kdu_collect (A := X.A.in1) (PySem.W.kdl_dict (knd := mixKind X.prog X.w) (kvs := vs) (ep := ep) lo) (I.ok.hd hcalm) hat h16 fun h' tk acc hk hacc => ?_)
  have hal : acc.toList.length = ks.length := by rw [Array.length_toList, hacc.1, hl]
  have hS : StrsAre acc.toList ks := strs_at hal fun j v e => by
    obtain ⟨k, x, e1, e2⟩ := hacc.2 j v (by rw [← Array.getElem?_toList]; exact e)
    have e3 : (vs.map (·.1))[j]? = some k := by rw [List.getElem?_map, e1]; all_goals rfl
    rw [hkeys, List.getElem?_map] at e3
    cases e4 : ks[j]? with
    | none => rw [e4] at e3; cases e3
    | some y =>
      rw [e4] at e3
      have e5 : Sum.inr y = k := Option.some.inj e3
      subst e5
      obtain ⟨t, ev⟩ := Value.isStrOf_shape (x := y) (v := v) e2
      exact ⟨y, t, rfl, ev⟩
  have I1 : Inv X pins σ H { s with heap := h', toks := tk } := I.kept hk
  refine wpAny_bind (wpAny_newList ?_ (by rw [hal, sizeLine_eq]; omega))
  have hoL : (h'.push (seqObj "list" acc.toList.toArray 0)).get? h'.objs.size = some (seqObj "list" acc.toList.toArray 0) := Heap.get?_push_size _ rfl
  show wpAny _ _ _ _ _ { s with heap := h'.push (seqObj "list" acc.toList.toArray 0), toks := tk }
  refine wpAny_bind (wpAny_holding (wpAny_call_entry PyProof.Rows.slot_list_sort ⟨_, hoL, rfl⟩ PyProof.Rows.entry_list_sort
    (list_sort_treeK strKind_oneLt (s := { s with heap := h'.push (seqObj "list" acc.toList.toArray 0), toks := tk }) hoL hS.keysOf (fun v₁ v₂ rest e => keyKind_strs (by rw [← e]; exact hS)) (by rw [hal]; exact h64) fun st' hp hs => ⟨_, rfl, ?_⟩)
    (PyProof.Rows.args_list_sort _)))
  obtain ⟨ys, g1, g2, g3⟩ := sorted_out_str hS hp hs
  obtain ⟨e', he'⟩ := PyProof.Rows.sortedHeap_at (vs := acc.toList) (out := (arrOf st').map (·.2)) hoL
  have hlen : (ys.map V.str).length ≤ sizeLine := by
    rw [List.length_map, g2.length_eq]
    exact Nat.le_trans (Nat.le_of_lt h64) (by decide)
  refine wpAny_pure ⟨_, rfl, .ref h'.objs.size, upd H h'.objs.size (.lst (ys.map V.str)), I1.laid (t' := tk) (fun b u e => ?_) (Nat.le_refl _)
    (show ObjOk X.prog X.w _ _ _ (.lst (ys.map V.str)) from ⟨hlen, ((arrOf st').map (·.2)).toList, e', vals_of_strs g1, by rw [Array.toArray_toList]; exact he'⟩), rfl, q ys _ g2 g3 (I1.hok.fresh (Nat.le_refl _))⟩
  have hb : b < h'.objs.size := Heap.lt_size e
  rw [PyProof.Rows.sortedHeap_old (Nat.ne_of_lt hb) (by rw [size_push']; exact Nat.lt_succ_of_lt hb)]
  exact Heap.get?_push_of_some _ e
theorem evf_sortDK {zs : List Str} (ha : EvD K W te ρ (dD (zs.map Sum.inr) ds)) (hl : zs.length = ds.length) (hz : zs.length < 64) (nd : zs.Nodup) :
    EvF K W (tCB rSortDK (tCons te tNil)) ρ (fun es => ∃ ns : List Str, es = ns.map .str ∧ StrU ns ∧ ∀ k, k ∈ ns ↔ k ∈ zs) := fun D0 H0 D H σ e Q q =>
  ha D0 H0 D H σ e _ fun v D1 H1 d1 s1 q1 p1 => by
    subst p1
    obtain ⟨a, xs, e1, r1, r2⟩ := Dq.dD (by rw [List.length_map]; exact hl) q1
    subst e1
    have o1 := s1.ok e.ok
    refine ⟨a, _, zs, rfl, same_rdK o1.sub r1.rd, ?_, hz, fun ys p hp hs hn => ?_⟩
    · rw [List.map_fst_zip (by rw [List.length_map, r2.len]; omega)]
    exact q p _ D1 _ _ (s1.trans e.ok (.keptH o1 (same_new hn))) (fresh_of e.ok s1 hn) (o1.sub.free hn) upd_same (DqA.strs ys) ⟨ys, rfl, sorted_nd hs (hp.nodup_iff.mpr nd), fun k => hp.mem_iff⟩

/-! ### sorted lists of tuples of ints -/
def tupI (ns : List Int) : PyData := .tuple (ns.map .int)
def BdU (B : Int) (d : Nat) (nss : List (List Int)) : Prop := ∀ ns ∈ nss, ns.length = d ∧ TS.Bd B ns
theorem code_inj {B : Int} : ∀ {ns ms : List Int}, ns.length = ms.length → TS.Bd B ns → TS.Bd B ms → TS.code B ns = TS.code B ms → ns = ms
  | [], [], _, _, _, _ => rfl
  | n :: ns, m :: ms, hl, h1, h2, h => by
    have hl' : ns.length = ms.length := by simpa using hl
    rcases Int.lt_trichotomy n m with z | z | z
    · exact absurd h (Int.ne_of_lt (TS.code_lt hl' h1.tail h2.tail z))
    · subst z
      have : TS.code B ns = TS.code B ms := by
        show TS.code B ns = TS.code B ms
        have h' : n * B ^ ns.length + TS.code B ns = n * B ^ ms.length + TS.code B ms := h
        rw [hl'] at h'
        omega
      rw [code_inj hl' h1.tail h2.tail this]
    · exact absurd h.symm (Int.ne_of_lt (TS.code_lt hl'.symm h2.tail h1.tail z))
def srtU (B : Int) (nss : List (List Int)) : List (List Int) := nss.mergeSort fun a b => decide (TS.code B a ≤ TS.code B b)
theorem srtU_perm (B : Int) (nss : List (List Int)) : (srtU B nss).Perm nss := List.mergeSort_perm ..
theorem srtU_pw (B : Int) (nss : List (List Int)) : (srtU B nss).Pairwise fun a b => TS.code B a ≤ TS.code B b := by
  have := List.pairwise_mergeSort (le := fun (a b : List Int) => decide (TS.code B a ≤ TS.code B b)) (fun a b c h1 h2 => decide_eq_true (Int.le_trans (of_decide_eq_true h1) (of_decide_eq_true h2)))
    (fun a b => by
      rcases Int.le_total (TS.code B a) (TS.code B b) with z | z
      · simp [z]
      · simp [z]) nss
  exact this.imp fun h => of_decide_eq_true h
theorem srtU_eq {B : Int} {d : Nat} {nss mss : List (List Int)} (hb : BdU B d nss) (hp : mss.Perm nss) (hs : mss.Pairwise fun a b => TS.code B a ≤ TS.code B b) : mss = srtU B nss := by
  refine List.Perm.eq_of_pairwise (le := fun a b => TS.code B a ≤ TS.code B b) (fun a b ha hb' h1 h2 => ?_) hs (srtU_pw B nss) (hp.trans (srtU_perm B nss).symm)
  obtain ⟨l1, b1⟩ := hb a (hp.mem_iff.mp ha)
  obtain ⟨l2, b2⟩ := hb b ((srtU_perm B nss).mem_iff.mp hb')
  exact code_inj (by rw [l1, l2]) b1 b2 (Int.le_antisymm h1 h2)
theorem srtU_app {B : Int} {d : Nat} {nss mss : List (List Int)} (hb : BdU B d (nss ++ mss)) : srtU B (srtU B nss ++ mss) = srtU B (nss ++ mss) :=
  srtU_eq hb ((srtU_perm B _).trans ((srtU_perm B nss).append_right mss)) (srtU_pw B _)
theorem DqA.tupsI {D : Hp} : ∀ {xs : List V} {nss : List (List Int)}, DqA K D xs (nss.map tupI) → ∀ x ∈ xs, ∃ ns ∈ nss, TupI K D x ns
  | _, [], .nil, x, h => absurd h (by simp)
  | _, n :: nss, .cons h1 h2, x, h => by
    rcases List.mem_cons.mp h with e | e
    · subst e
      generalize ed : tupI n = d at h1
      cases h1 with
      | tup g1 g2 =>
        injection ed with ed
        subst ed
        have ex := g2.isInts
        subst ex
        exact ⟨n, List.mem_cons_self, _, rfl, g1⟩
      | _ => cases ed
    · obtain ⟨ns, m, t⟩ := h2.tupsI x e
      exact ⟨ns, List.mem_cons_of_mem _ m, t⟩
theorem perm_dq {D : Hp} : ∀ {ys xs : List V}, ys.Perm xs → ∀ {nss : List (List Int)}, DqA K D xs (nss.map tupI) → ∃ mss : List (List Int), mss.Perm nss ∧ DqA K D ys (mss.map tupI) := fun {ys xs} hp => by
  induction hp with
  | nil =>
    intro nss h
    exact ⟨nss, .refl _, h⟩
  | cons x p ih =>
    intro nss h
    cases nss with
    | nil => cases h
    | cons n nss =>
      cases h with
      | cons h1 h2 =>
        obtain ⟨mss, p1, q1⟩ := ih h2
        exact ⟨n :: mss, p1.cons n, .cons h1 q1⟩
  | swap x y l =>
    intro nss h
    match nss, h with
    | n :: m :: nss, .cons h1 (.cons h2 h3) => exact ⟨m :: n :: nss, .swap .., .cons h2 (.cons h1 h3)⟩
  | trans p1 p2 ih1 ih2 =>
    intro nss h
    obtain ⟨mss, q1, q2⟩ := ih2 h
    obtain ⟨ls, q3, q4⟩ := ih1 q2
    exact ⟨ls, q3.trans q1, q4⟩
theorem pw_codes {D : Hp} {B : Int} : ∀ {ys : List V} {mss : List (List Int)}, DqA K D ys (mss.map tupI) → ys.Pairwise (fun x y => ∀ n m, TupI K D x n → TupI K D y m → TS.code B n ≤ TS.code B m) → mss.Pairwise fun a b => TS.code B a ≤ TS.code B b := fun {ys mss} h hp => by
  rw [List.pairwise_iff_getElem] at hp ⊢
  intro i j hi hj hij
  have at' : ∀ {k : Nat} (hk : k < mss.length), ∃ hk' : k < ys.length, TupI K D ys[k] mss[k] := fun {k} hk => by
    have e : (mss.map tupI)[k]? = some (tupI mss[k]) := by rw [List.getElem?_map, List.getElem?_eq_getElem hk]; rfl
    obtain ⟨v, e2, q⟩ := h.at e
    have hk' := (List.getElem?_eq_some_iff.mp e2).1
    refine ⟨hk', ?_⟩
    have ev : ys[k] = v := (List.getElem?_eq_some_iff.mp e2).2
    rw [ev]
    obtain ⟨ns, m, t⟩ := DqA.tupsI (nss := [mss[k]]) (xs := [v]) (.cons q .nil) v (by simp)
    rw [List.mem_singleton.mp m] at t
    exact t
  obtain ⟨hi', t1⟩ := at' hi
  obtain ⟨hj', t2⟩ := at' hj
  exact hp i j hi' hj' hij _ _ t1 t2
theorem evf_sortU {B : Int} {n : Nat} {PN : List (List Int) → Prop} (hn : 1 ≤ n) (h : EvB K W te ρ (fun ds => ∃ nss : List (List Int), ds = nss.map tupI ∧ nss.length < 64 ∧ BdU B n nss ∧ PN nss)) :
    EvF K W (tCB (rSortU K n B) (tCons te tNil)) ρ (fun es => ∃ nss, PN nss ∧ es = (srtU B nss).map tupI) := fun D0 H0 D H σ e Q q =>
  h D0 H0 D H σ e _ fun l xs D1 H1 ds s1 hl q1 ⟨nss, e1, hz, hb, p⟩ => by
    subst e1
    have o1 := s1.ok e.ok
    have lx := q1.len
    rw [List.length_map] at lx
    refine ⟨l, xs, rfl, hl, by omega, fun x hx => ?_, fun ys p' hp hs hn' => ?_⟩
    · obtain ⟨ns, m, t⟩ := (q1.up o1.sub).tupsI x hx
      exact ⟨ns, t, hb ns m⟩
    · obtain ⟨mss, p1, p2⟩ := perm_dq hp q1
      have em := srtU_eq hb p1 (pw_codes (p2.up o1.sub) hs)
      subst em
      exact q p' _ D1 _ _ (s1.trans e.ok (.keptH o1 (same_new hn'))) (fresh_of e.ok s1 hn') (o1.sub.free hn') upd_same p2 ⟨nss, p, rfl⟩
end
end Dl

/-! ## lists put together, whatever lists they are; a list times an int -/
namespace Dl
open PySem PySem.Spec PyProof.Rows L2
section
variable {X : Cx}
def rCatL (K : PySem.W.Frag) : R2 := fun x y H Q => ∃ a b xs ys, x = .ref a ∧ y = .ref b ∧ SqL K H a xs ∧ SqL K H b ys ∧ xs.length + ys.length ≤ sizeLine ∧ ∀ p, H p = none → Q (.ref p) (upd H p (.lst (xs ++ ys)))
theorem op_catLL : OpR X (binaryOp .Add) (rCatL X.K) := by
  intro pins s σ H x y v u Q I rx ry h
  obtain ⟨a, b, xs, ys, rfl, rfl, ha, hb, hz, q⟩ := h
  cases rx
  cases ry
  obtain ⟨vs, r1, ⟨⟨c1, d1, t1, s1⟩, n1, ho1, hc1, _, hd1⟩, _⟩ := I.list ha
  obtain ⟨ws, r2, ⟨⟨c2, d2, t2, s2⟩, n2, ho2, hc2, _, hd2⟩, _⟩ := I.list hb
  simp only at hc1 hd1 hc2 hd2
  subst hc1 hd1 hc2 hd2
  have e1 := r1.length
  have e2 := r2.length
  have e : vs.toArray ++ ws.toArray = (vs ++ ws).toArray := by simp
  refine concat_meets ⟨_, ho1, rfl⟩ ⟨_, ho2, rfl⟩ noFill_list_add seq_list_add PySem.F.slot_list_add PySem.F.entry_list_add (PySem.F.args_list_add_2 _ _) (list_addW a b vs.toArray ws.toArray n1 n2 d1 d2 s1 s2 (by rw [List.size_toArray, List.size_toArray]; omega)) ⟨ho1, ho2, ?_⟩
  rw [e]
  exact ⟨.ref _, _, I.lnew (t' := s.toks) (r1.append r2) (by rw [List.length_append]; omega), rfl, q _ I.fresh⟩
end
section
variable {K : PySem.W.Frag} {W : Fx} {ρ : List Sk} {ta tb : TE} {PA PB : List PyData → Prop}
theorem evf_catLL (ha : EvN K W ta ρ (fun d => ∃ ds, PA ds ∧ d = .list ds)) (hb : EvB K W tb ρ PB) (hl : ∀ a b, PA a → PB b → a.length + b.length ≤ sizeLine) : EvF K W (tOp (rCatL K) ta tb) ρ (fun ds => ∃ a b, PA a ∧ PB b ∧ ds = a ++ b) := fun D0 H0 D H σ e Q q =>
  ha D0 H0 D H σ e _ fun v D1 H1 d s1 q1 ⟨ds, p1, e1⟩ => hb D0 H0 D1 H1 σ (e.step s1) _ fun m ys D2 H2 es s2 w2 q2 p2 => by
    subst e1
    cases q1 with
    | lst h1 h2 =>
      have o1 := s1.ok e.ok
      have o2 := s2.ok o1
      have s12 := s1.trans e.ok s2
      refine ⟨_, m, _, ys, rfl, rfl, same_l (s2.gro.trans o2.sub) h1, w2, by rw [h2.len, q2.len]; exact hl _ _ p1 p2, fun p hp => ?_⟩
      exact q p _ D2 _ _ (s12.trans e.ok (.keptH o2 (same_new hp))) (fresh_of e.ok s12 hp) (o2.sub.free hp) upd_same ((h2.up s2.gro).app q2) ⟨ds, es, p1, p2, rfl⟩
theorem evf_rep {k : Nat} (ha : EvF K W ta ρ PA) (hb : EvD K W tb ρ (.int (k : Int))) (hl : ∀ a, PA a → a.length * k ≤ sizeLine) (hk : k < 1000000) : EvF K W (tOp rRep ta tb) ρ (fun ds => ∃ a, PA a ∧ ds = (List.replicate k a).flatten) := fun D0 H0 D H σ e Q q =>
  ha D0 H0 D H σ e _ fun l xs D1 H1 ds s1 n1 d1 l1 q1 p1 => hb D0 H0 D1 H1 σ (e.step s1) _ fun y D2 H2 d2 s2 q2 p2 => by
    subst p2
    cases q2
    have o1 := s1.ok e.ok
    have o2 := s2.ok o1
    have s12 := s1.trans e.ok s2
    have hw : ¬ W.adr l := fun hw => W.has H l e.ok.inv hw n1
    have l2 : H2 l = some (.lst xs) := s2.off l _ hw l1
    refine ⟨l, (k : Int), xs, rfl, rfl, l2, by omega, by omega, by rw [q1.len]; exact hl _ p1, fun p hp => ?_⟩
    have dq : ∀ n : Nat, DqA K D2 (List.replicate n xs).flatten (List.replicate n ds).flatten := fun n => by
      induction n with
      | zero => exact .nil
      | succ n ih =>
        rw [List.replicate_succ, List.replicate_succ, List.flatten_cons, List.flatten_cons]
        exact (q1.up s2.gro).app ih
    exact q p _ D2 _ _ (s12.trans e.ok (.keptH o2 (same_new hp))) (fresh_of e.ok s12 hp) (o2.sub.free hp) upd_same (dq k) ⟨ds, p1, rfl⟩
end
end Dl

/-! ## sorted lists of tuples of ints and texts, any number of them -/
namespace Dl
open PySem PySem.Spec PyProof.Rows L2

def itK : Key → Int ⊕ List Nat
  | .inl i => .inl i
  | .inr z => .inr z.cps.toList
def itKs (ks : List Key) : List (Int ⊕ List Nat) := ks.map itK
def isTx : Key → Bool
  | .inl _ => false
  | .inr _ => true
def shOk (shape : Nat → Bool) : Nat → List Key → Prop
  | _, [] => True
  | i, k :: ks => shape i = isTx k ∧ shOk shape (i + 1) ks
theorem itK_inj : ∀ {a b : Key}, itK a = itK b → a = b
  | .inl i, .inl j, h => by cases h; rfl
  | .inr i, .inr j, h => by rw [str_inj (Sum.inr.inj h)]
  | .inl i, .inr j, h => by cases h
  | .inr i, .inl j, h => by cases h
theorem itKs_inj : ∀ {a b : List Key}, itKs a = itKs b → a = b
  | [], [], _ => rfl
  | [], _ :: _, h => by cases h
  | _ :: _, [], h => by cases h
  | x :: a, y :: b, h => by
    unfold itKs at h
    rw [List.map_cons, List.map_cons] at h
    injection h with h1 h2
    rw [itK_inj h1, itKs_inj h2]
theorem tupItems_of {shape : Nat → Bool} : ∀ {ks : List Key} {us : List Value} {i : Nat}, shOk shape i ks → Vals (ks.map kV) us → tupItems shape i us = some (itKs ks)
  | [], _, _, _, h => by
    cases h
    rfl
  | .inl n :: ks, _, i, hs, h => by
    cases h with
    | cons h1 h2 =>
      obtain ⟨t, rfl⟩ := h1
      have e : shape i = false := hs.1
      show (if shape i = true then none else (tupItems shape (i + 1) _).map (Sum.inl n :: ·)) = _
      rw [e, if_neg Bool.false_ne_true, tupItems_of hs.2 h2]
      rfl
  | .inr z :: ks, _, i, hs, h => by
    cases h with
    | cons h1 h2 =>
      obtain ⟨t, rfl⟩ := h1
      have e : shape i = true := hs.1
      show (if shape i = true then (tupItems shape (i + 1) _).map (Sum.inr z.cps.toList :: ·) else none) = _
      rw [e, if_pos rfl, tupItems_of hs.2 h2]
      rfl
def TupM (K : PySem.W.Frag) (H : Hp) (x : V) (ks : List Key) : Prop := ∃ t, x = .ref t ∧ SqT K H t (ks.map kV)
section
variable {X : Cx} {pins : List (Addr × Obj)} {σ : L2.St} {H : Hp} {s : Shared}
theorem tupM_raw (I : Inv X pins σ H s) {t : Addr} {ks : List Key} (h : SqT X.K H t (ks.map kV)) : ∃ (o : Obj) (its : Array Value) (n : Nat), s.heap.get? t = some o ∧ o.cls = .type "tuple" ∧ o.data = .seq its n ∧ Vals (ks.map kV) its.toList := by
  obtain ⟨its, rv, ⟨o, ho, hc, n, hd⟩, _⟩ := I.tuple h
  exact ⟨o, its.toArray, n, ho, hc, hd, by simpa using rv⟩
theorem tupM_key (I : Inv X pins σ H s) {shape : Nat → Bool} {t : Addr} {ks : List Key} (h : SqT X.K H t (ks.map kV)) (hs : shOk shape 0 ks) : G.tupKeyC s.heap shape (.ref t) = some (itKs ks) := by
  obtain ⟨o, its, n, ho, hc, hd, rv⟩ := tupM_raw I h
  have e1 : G.isTupObj s.heap (.ref t) = true := by simp [G.isTupObj, ho, hc]
  unfold G.tupKeyC
  rw [if_pos e1]
  simp only [tupKey, ho, hd]
  exact tupItems_of hs rv
theorem tupM_of (I : Inv X pins σ H s) {shape : Nat → Bool} {t : Addr} {ks : List Key} (h : SqT X.K H t (ks.map kV)) (hs : shOk shape 0 ks) (hne : ks ≠ []) : ∃ f, TupOf s.heap shape (.ref t) f := by
  obtain ⟨o, its, n, ho, hc, hd, rv⟩ := tupM_raw I h
  cases ks with
  | nil => exact absurd rfl hne
  | cons k ks =>
    rw [List.map_cons] at rv
    generalize hl : its.toList = l at rv
    cases rv with
    | @cons _ f _ fs h1 h2 =>
      have e0 : its[0]? = some f := by rw [← Array.getElem?_toList, hl]; rfl
      have e2 : shape 0 = isTx k := hs.1
      refine ⟨f, t, o, its, n, rfl, ho, hc, hd, e0, fun e => ?_, fun e => ?_⟩
      · cases k with
        | inl i =>
          obtain ⟨tk, e3⟩ := h1
          exact ⟨i, tk, e3⟩
        | inr z =>
          rw [e] at e2
          cases e2
      · cases k with
        | inr i =>
          obtain ⟨tk, e3⟩ := h1
          exact ⟨i, tk, e3⟩
        | inl z =>
          rw [e] at e2
          cases e2
theorem tupsM_of {h : Heap} {shape : Nat → Bool} : ∀ {vs : List Value}, (∀ v ∈ vs, ∃ f, TupOf h shape v f) → ∃ fs, TupsOf h shape vs fs
  | [], _ => ⟨[], .nil⟩
  | v :: vs, hv => by
    obtain ⟨f, hf⟩ := hv v List.mem_cons_self
    obtain ⟨fs, hfs⟩ := tupsM_of fun u hu => hv u (List.mem_cons_of_mem _ hu)
    exact ⟨f :: fs, .cons hf hfs⟩
/-- sorted(xs), xs tuples of ints and texts -/
def rSortM (K : PySem.W.Frag) (shape : Nat → Bool) : List V → Hp → VK → Prop := fun vs H Q => ∃ (a : Addr) (xs : List V), vs = [V.ref a] ∧ SqL K H a xs ∧ (∀ x ∈ xs, ∃ ks, TupM K H x ks ∧ ks ≠ [] ∧ shOk shape 0 ks) ∧
  ∀ (ys : List V) (p : Addr), ys.Perm xs → ys.Pairwise (fun x y => ∀ n m, TupM K H x n → shOk shape 0 n → TupM K H y m → shOk shape 0 m → lexLt itemOrd (itKs m) (itKs n) = false) → H p = none → Q (.ref p) (upd H p (.lst ys))
end
section
variable {X : Cx}
theorem cr_sortM {shape : Nat → Bool} : CallR X (.builtin "sorted") (rSortM X.K shape) := by
  intro pins s σ H vs us Q I r h
  obtain ⟨a, xs, rfl, hs, hx, q⟩ := h
  obtain ⟨its, rv, hl, hz⟩ := I.list hs
  rw [Vals.ref1 r]
  obtain ⟨e1, e2⟩ := bkV_refs rv fun x m => by
    obtain ⟨ns, ⟨t, e, _⟩, _⟩ := hx x m
    exact ⟨t, e⟩
  have has : ∀ v ∈ its, ∃ t ks, v = .ref t ∧ SqT X.K H t (ks.map kV) ∧ ks ≠ [] ∧ shOk shape 0 ks := fun v hv => by
    obtain ⟨t, rfl⟩ := e2 v hv
    have hm : V.ref t ∈ xs := by
      rw [e1]
      exact List.mem_map.mpr ⟨_, hv, rfl⟩
    obtain ⟨ks, ⟨t', e, ht⟩, hn, hb⟩ := hx _ hm
    cases e
    exact ⟨t, ks, rfl, ht, hn, hb⟩
  obtain ⟨fs, ht⟩ := tupsM_of (h := s.heap) (shape := shape) (vs := its) fun v hv => by
    obtain ⟨t, ks, rfl, h1, h2, h3⟩ := has v hv
    exact tupM_of I h1 h3 h2
  refine G.sorted_tups hl.isList ht (fun v hv => ?_) (by rw [← rv.length]; exact hz) fun st' hp hsort _ => ?_
  · obtain ⟨t, ks, rfl, h1, h2, h3⟩ := has v hv
    exact ⟨_, tupM_key I h1 h3⟩
  · have hpl : (arrOf st').toList.Perm (its.zip its) := by rw [← pairsOf_toList]; exact Array.perm_iff_toList_perm.mp hp
    have same : ∀ p ∈ (arrOf st').toList, p.1 = p.2 ∧ p.1 ∈ its := fun p hp' => mem_zip_self (hpl.mem_iff.mp hp')
    have hout : ((arrOf st').map (·.2)).toList = (arrOf st').toList.map (·.2) := Array.toList_map
    have pout : ((arrOf st').map (·.2)).toList.Perm its := by
      rw [hout]
      have z := hpl.map Prod.snd
      rw [List.map_snd_zip (Nat.le_refl _)] at z
      exact z
    obtain ⟨ep, he'⟩ := PyProof.Rows.sortedAll_at s.heap its ((arrOf st').map (·.2))
    have h3 : ∀ u ∈ ((arrOf st').map (·.2)).toList, ∃ a, u = Value.ref a := fun u hu => e2 u (pout.mem_iff.mp hu)
    have hpp : (((arrOf st').map (·.2)).toList.map bkV).Perm xs := by
      rw [e1]
      exact pout.map bkV
    have hlen : (((arrOf st').map (·.2)).toList.map bkV).length ≤ sizeLine := by
      rw [hpp.length_eq]
      exact hz
    refine ⟨.ref _, upd H (s.heap.objs.size + 1) (.lst (((arrOf st').map (·.2)).toList.map bkV)), I.laid (t' := s.toks) (fun _ _ => PyProof.Rows.sortedAll_old) (Nat.le_succ _) ⟨hlen, ((arrOf st').map (·.2)).toList, ep, bkV_vals h3, by rw [Array.toArray_toList]; exact he'⟩, rfl, q _ _ hpp ?_ (I.hok.fresh (Nat.le_succ _))⟩
    rw [List.pairwise_map, hout, List.pairwise_map, List.pairwise_iff_getElem]
    intro i j hi hj hij n m hn sn hm sm
    have hi' : i < (arrOf st').size := by simpa using hi
    have hj' : j < (arrOf st').size := by simpa using hj
    have k1 := hsort i j (Nat.le_of_lt hij) (by rw [← hp.size_eq]; exact hj')
    obtain ⟨t, et, ht1⟩ := hn
    obtain ⟨t', et', ht2⟩ := hm
    have eu := bkV_ref et
    have ev := bkV_ref et'
    have g1 := (same _ (List.getElem_mem hi)).1
    have g2 := (same _ (List.getElem_mem hj)).1
    have kk : ∀ (k : Nat) (hk : k < (arrOf st').size) (t : Addr) (ks : List Key), (arrOf st')[k].1 = .ref t → SqT X.K H t (ks.map kV) → shOk shape 0 ks → KK (G.tupKindC s.heap shape) (arrOf st') k = itKs ks := fun k hk t ks e hT sk => by
      unfold KK
      rw [getElem?_pos (arrOf st') k hk]
      show (G.tupKeyC s.heap shape (arrOf st')[k].1).getD _ = _
      rw [e, tupM_key I hT sk]
      rfl
    rw [kk i hi' t n (by rw [Array.getElem_toList] at g1 eu; rw [g1]; exact eu) ht1 sn, kk j hj' t' m (by rw [Array.getElem_toList] at g2 ev; rw [g2]; exact ev) ht2 sm] at k1
    exact k1
end
end Dl

/-! ## sorted lists of tuples of ints and texts, in the logic -/
namespace Dl
open PySem PySem.Spec PyProof.Rows L2

theorem kD_kV {K : PySem.W.Frag} {D : Hp} : ∀ (k : Key), Dq K D (kV k) (kD k)
  | .inl i => .int i
  | .inr z => .str z
theorem DqA.keysV {K : PySem.W.Frag} {D : Hp} : ∀ {xs : List V} (ks : List Key), DqA K D xs (ks.map kD) → xs = ks.map kV
  | _, [], h => by
    cases h
    rfl
  | _, k :: ks, h => by
    rw [List.map_cons] at h
    cases h with
    | cons h1 h2 => rw [kD_dq h1, DqA.keysV ks h2, List.map_cons]
def tupM (ks : List Key) : PyData := .tuple (ks.map kD)
def leM (a b : List Key) : Bool := !lexLt itemOrd (itKs b) (itKs a)
theorem leM_iff {a b : List Key} : leM a b = true ↔ lexLt itemOrd (itKs b) (itKs a) = false := by
  unfold leM
  rw [Bool.not_eq_true']
theorem leM_trans (a b c : List Key) (h1 : leM a b = true) (h2 : leM b c = true) : leM a c = true := by
  rw [leM_iff] at h1 h2 ⊢
  cases h : lexLt itemOrd (itKs c) (itKs a) with
  | false => rfl
  | true =>
    rcases lex_negTrans (O := itemOrd) (itKs c) (itKs b) (itKs a) h with z | z
    · rw [h2] at z
      cases z
    · rw [h1] at z
      cases z
theorem leM_total (a b : List Key) : (leM a b || leM b a) = true := by
  rw [Bool.or_eq_true, leM_iff, leM_iff]
  cases h : lexLt itemOrd (itKs b) (itKs a) with
  | false => exact .inl rfl
  | true =>
    refine .inr ?_
    cases h2 : lexLt itemOrd (itKs a) (itKs b) with
    | false => rfl
    | true =>
      have := lex_trans (O := itemOrd) _ _ _ h h2
      rw [lex_irrefl (O := itemOrd)] at this
      cases this
theorem leM_anti {a b : List Key} (h1 : leM a b = true) (h2 : leM b a = true) : a = b := by
  rw [leM_iff] at h1 h2
  exact itKs_inj (lex_total (O := itemOrd) _ _ h2 h1)
def srtM (kss : List (List Key)) : List (List Key) := kss.mergeSort leM
theorem srtM_perm (kss : List (List Key)) : (srtM kss).Perm kss := List.mergeSort_perm ..
theorem srtM_pw (kss : List (List Key)) : (srtM kss).Pairwise fun a b => leM a b = true := List.pairwise_mergeSort leM_trans leM_total kss
theorem srtM_eq {kss mss : List (List Key)} (hp : mss.Perm kss) (hs : mss.Pairwise fun a b => leM a b = true) : mss = srtM kss :=
  List.Perm.eq_of_pairwise (le := fun a b => leM a b = true) (fun _ _ _ _ h1 h2 => leM_anti h1 h2) hs (srtM_pw kss) (hp.trans (srtM_perm kss).symm)
theorem srtM_of_perm {a b : List (List Key)} (h : a.Perm b) : srtM a = srtM b := srtM_eq ((srtM_perm a).trans h) (srtM_pw a)
theorem srtM_app (a b : List (List Key)) : srtM (srtM a ++ b) = srtM (a ++ b) := srtM_of_perm ((srtM_perm a).append_right b)
theorem srtM_nil : srtM [] = [] := by
  unfold srtM
  simp
section
variable {K : PySem.W.Frag} {W : Fx} {ρ : List Sk} {te : TE}
theorem DqA.tupsM {D : Hp} : ∀ {xs : List V} {nss : List (List Key)}, DqA K D xs (nss.map tupM) → ∀ x ∈ xs, ∃ ns ∈ nss, TupM K D x ns
  | _, [], .nil, x, h => absurd h (by simp)
  | _, n :: nss, .cons h1 h2, x, h => by
    rcases List.mem_cons.mp h with e | e
    · subst e
      generalize ed : tupM n = d at h1
      cases h1 with
      | tup g1 g2 =>
        injection ed with ed
        subst ed
        have ex := g2.keysV
        subst ex
        exact ⟨n, List.mem_cons_self, _, rfl, g1⟩
      | _ => cases ed
    · obtain ⟨ns, m, t⟩ := h2.tupsM x e
      exact ⟨ns, List.mem_cons_of_mem _ m, t⟩
theorem perm_dqA {α : Type} {g : α → PyData} {D : Hp} : ∀ {ys xs : List V}, ys.Perm xs → ∀ {nss : List α}, DqA K D xs (nss.map g) → ∃ mss : List α, mss.Perm nss ∧ DqA K D ys (mss.map g) := fun {ys xs} hp => by
  induction hp with
  | nil =>
    intro nss h
    exact ⟨nss, .refl _, h⟩
  | cons x p ih =>
    intro nss h
    cases nss with
    | nil => cases h
    | cons n nss =>
      cases h with
      | cons h1 h2 =>
        obtain ⟨mss, p1, q1⟩ := ih h2
        exact ⟨n :: mss, p1.cons n, .cons h1 q1⟩
  | swap x y l =>
    intro nss h
    match nss, h with
    | n :: m :: nss, .cons h1 (.cons h2 h3) => exact ⟨m :: n :: nss, .swap .., .cons h2 (.cons h1 h3)⟩
  | trans p1 p2 ih1 ih2 =>
    intro nss h
    obtain ⟨mss, q1, q2⟩ := ih2 h
    obtain ⟨ls, q3, q4⟩ := ih1 q2
    exact ⟨ls, q3.trans q1, q4⟩
theorem pw_leM {shape : Nat → Bool} {D : Hp} : ∀ {ys : List V} {mss : List (List Key)}, DqA K D ys (mss.map tupM) → (∀ ms ∈ mss, shOk shape 0 ms) →
    ys.Pairwise (fun x y => ∀ n m, TupM K D x n → shOk shape 0 n → TupM K D y m → shOk shape 0 m → lexLt itemOrd (itKs m) (itKs n) = false) → mss.Pairwise fun a b => leM a b = true := fun {ys mss} h hb hp => by
  rw [List.pairwise_iff_getElem] at hp ⊢
  intro i j hi hj hij
  have at' : ∀ {k : Nat} (hk : k < mss.length), ∃ hk' : k < ys.length, TupM K D ys[k] mss[k] := fun {k} hk => by
    have e : (mss.map tupM)[k]? = some (tupM mss[k]) := by rw [List.getElem?_map, List.getElem?_eq_getElem hk]; rfl
    obtain ⟨v, e2, q⟩ := h.at e
    have hk' := (List.getElem?_eq_some_iff.mp e2).1
    refine ⟨hk', ?_⟩
    have ev : ys[k] = v := (List.getElem?_eq_some_iff.mp e2).2
    rw [ev]
    obtain ⟨ns, m, t⟩ := DqA.tupsM (nss := [mss[k]]) (xs := [v]) (.cons q .nil) v (by simp)
    rw [List.mem_singleton.mp m] at t
    exact t
  obtain ⟨hi', t1⟩ := at' hi
  obtain ⟨hj', t2⟩ := at' hj
  exact leM_iff.mpr (hp i j hi' hj' hij _ _ t1 (hb _ (List.getElem_mem hi)) t2 (hb _ (List.getElem_mem hj)))
theorem evf_sortM {shape : Nat → Bool} {PN : List (List Key) → Prop} (h : EvB K W te ρ (fun ds => ∃ nss : List (List Key), ds = nss.map tupM ∧ (∀ ns ∈ nss, ns ≠ [] ∧ shOk shape 0 ns) ∧ PN nss)) :
    EvF K W (tCB (rSortM K shape) (tCons te tNil)) ρ (fun es => ∃ nss, PN nss ∧ es = (srtM nss).map tupM) := fun D0 H0 D H σ e Q q =>
  h D0 H0 D H σ e _ fun l xs D1 H1 ds s1 hl q1 ⟨nss, e1, hb, p⟩ => by
    subst e1
    have o1 := s1.ok e.ok
    refine ⟨l, xs, rfl, hl, fun x hx => ?_, fun ys p' hp hs hn' => ?_⟩
    · obtain ⟨ns, m, t⟩ := (q1.up o1.sub).tupsM x hx
      exact ⟨ns, t, hb ns m⟩
    · obtain ⟨mss, p1, p2⟩ := perm_dqA hp q1
      have em := srtM_eq p1 (pw_leM (p2.up o1.sub) (fun ms hm => (hb ms (p1.mem_iff.mp hm)).2) hs)
      subst em
      exact q p' _ D1 _ _ (s1.trans e.ok (.keptH o1 (same_new hn'))) (fresh_of e.ok s1 hn') (o1.sub.free hn') upd_same p2 ⟨nss, p, rfl⟩
theorem ei_tupN {P : List PyData → Prop} (h : EvN K W te ρ (fun d => ∃ ds, P ds ∧ d = .tuple ds)) : EvI K W (iTup K te) ρ P := fun D0 H0 D H σ e R k =>
  h D0 H0 D H σ e _ fun v D' H' d s q ⟨ds, p, e1⟩ => by
    subst e1
    cases q with
    | tup h1 h2 => exact ⟨_, rfl, ⟨_, same_t s.sub h1⟩, k _ D' H' _ s (.tup h1 h2) p⟩
theorem evf_catLB {ta tb : TE} {PA PB : List PyData → Prop} (ha : EvL K W ta ρ PA) (hb : EvB K W tb ρ PB) (hl : ∀ a b, PA a → PB b → a.length + b.length ≤ sizeLine) : EvF K W (tOp (rCatL K) ta tb) ρ (fun ds => ∃ a b, PA a ∧ PB b ∧ ds = a ++ b) := fun D0 H0 D H σ e Q q =>
  ha D0 H0 D H σ e _ fun l xs D1 H1 ds s1 w1 c1 q1 p1 => hb D0 H0 D1 H1 σ (e.step s1) _ fun m ys D2 H2 es s2 w2 q2 p2 => by
    have o1 := s1.ok e.ok
    have o2 := s2.ok o1
    have s12 := s1.trans e.ok s2
    refine ⟨l, m, xs, ys, rfl, rfl, Or.inl (Or.inl (s2.off l _ w1 c1)), w2, by rw [q1.len, q2.len]; exact hl _ _ p1 p2, fun p hp => ?_⟩
    exact q p _ D2 _ _ (s12.trans e.ok (.keptH o2 (same_new hp))) (fresh_of e.ok s12 hp) (o2.sub.free hp) upd_same ((q1.up s2.gro).app q2) ⟨ds, es, p1, p2, rfl⟩
end
section
variable {P : Program} {w : World} {K : PySem.W.Frag} {mg : Str → Option Value} {base : Heap} {x qual : Str} {st : Stmt} {f : Addr} {fd : FuncData} {N ps : List Str} {k : Nat} {Pre : List PyData → Prop} {Post : List PyData → PyData → Prop}
/-- a def whose repr is known where no guard stands -/
theorem ok_NG (F : Fun K x qual st f fd) (S : FnScope N ps (defScope st)) (hb : ∀ (cdv : Value) (A : Around) (outer : List PySem.Env) (s : Shared) (H : Hp) (E : XK), A.guards = some [] →
      Room k (A.deeper (envOfC qual (defScope st) s.heap.objs.size f cdv)) → ∀ ds, ds.length = ps.length → Pre ds →
      ∃ t, PSs (cxOf CX0 P w K mg base N qual (defScope st) f cdv A outer s H E).nox (defBody st) t ∧ StG K Fx.non (fun _ => False) t (ins N ds) { nx := fun _ => Post ds .none, rt := Post ds }) :
    FnG P w K mg base CX0 (k + 1) f fd ps (spN K ps.length Pre Post) := by
  refine fun_okG0 F S (fun vs H Q E h => ?_) (fun cdv A outer s H vs Q E hg hr h => ?_)
  · obtain ⟨D, ds, _, q, hl, _⟩ := h
    rw [q.len]
    exact hl
  · obtain ⟨D, ds, o, q, hl, p, k⟩ := h
    obtain ⟨t, ht, hgo⟩ := hb cdv A outer s H E hg hr ds hl p
    refine ⟨t, ht, hgo.run (env_start o q ?_) k fun _ _ _ z => z⟩
    have hp : ps.length ≤ N.length := by
      have := congrArg List.length S.pre
      rw [List.length_take] at this
      omega
    omega
end
end Dl

/-! ## set(a list of texts), in the shape that sorted asks for -/
namespace Dl
open PySem PySem.Spec PyProof.Rows L2
theorem strs_get : ∀ {us : List Value} {xs : List Str}, StrsAre us xs → ∀ (i : Nat) (v : Value), us[i]? = some v → ∃ t, v = .str (xs.getD i Str.empty) t
  | _, _, .nil, i, v, h => by simp at h
  | _, _, .cons k tk r, 0, v, h => by
    have e : Value.str k tk = v := Option.some.inj h
    exact ⟨tk, e.symm⟩
  | _, _, .cons k tk r, i + 1, v, h => by
    obtain ⟨t, e⟩ := strs_get r i v (by simpa using h)
    exact ⟨t, by rw [e]; simp⟩
/-- what the first i values leave in the set at S -/
def HeapedS (w : World) (h : Heap) (S : Addr) (val : Nat → Str) (i : Nat) : Prop := ∃ (f : Str → Bool) (c : Nat), DlS.SetS w h S f c ∧ (∀ k, f k = true ↔ ∃ j, j < i ∧ val j = k) ∧ c ≤ i

section
variable {Pg : Program} {w : World} {A : Around} {R : Result → Shared → Prop} {I : Addr} {fp wr : List Addr} {G : Array GenState → Array GenState → Prop} {n : Nat} {Pv : Nat → Value → Prop} {St : Nat → Shared → Prop}
theorem heap_loopS (W : WalksS Pg w A.in1 I fp wr G n Pv St) (S : Addr) (out : S ∉ fp) (val : Nat → Str) (isV : ∀ i v, Pv i v → ∃ t, v = .str (val i) t) (room : n + 1 < scanBound) :
    ∀ (m i : Nat) (s : Shared), n - i = m → i ≤ n → St i s → HeapedS w s.heap S val i → (∀ s', Moved (S :: wr) G s s' → HeapedS w s'.heap S val n → R (.ok (.ret .none)) s') →
      codeAny (model Pg w) A (.builtin "set.update.loop" ⟨[.ref S, .ref I], []⟩) R s := by
  have nw : S ∉ wr := fun h => out (W.sub _ h)
  have up : ∀ b ∈ wr, b ∈ S :: wr := fun b hb => List.mem_cons_of_mem _ hb
  have moved : ∀ {s s' : Shared} {i : Nat}, Moved wr G s s' → HeapedS w s.heap S val i → HeapedS w s'.heap S val i := fun hm ⟨f, c, r, q⟩ => ⟨f, c, r.at fun o e => hm.heap S o nw e, q⟩
  intro m
  induction m with
  | zero =>
    intro i s hm hi st hS k
    obtain rfl : i = n := by omega
    refine codeAny_builtin F.entry_set_update_loop ?_
    rw [Around.under_plainId F.plain_set_update_loop _]
    show wpAny _ A.in1 (pyNext (Value.ref I) >>= _) _ _ s
    refine wpAny_bind (W.done s _ _ st fun s' mv => ?_)
    show wpAny _ A.in1 (ret Value.none) _ _ s'
    exact wpAny_pure (k s' (mv.mono up) (moved mv hS))
  | succ m ih =>
    intro i s hm hi st hS k
    have lt : i < n := by omega
    refine codeAny_builtin F.entry_set_update_loop ?_
    rw [Around.under_plainId F.plain_set_update_loop _]
    show wpAny _ A.in1 (pyNext (Value.ref I) >>= _) _ _ s
    refine wpAny_bind (W.item i s _ _ lt st fun v s' hv st' mv => ?_)
    obtain ⟨t, rfl⟩ := isV i v hv
    obtain ⟨f, c, r, hf, hc⟩ := moved mv hS
    show wpAny _ A.in1 (holding [Value.str (val i) t] (setAdd S (.str (val i) t)) >>= _) _ _ s'
    refine wpAny_bind (wpAny_holding ?_)
    unfold setAdd
    refine wpAny_holding (wpAny_bind ((PySem.strKind Pg w).pyHash (k := val i) (strKind_is Pg w (val i) t) ?_))
    refine DlS.setS_add_hashed (s := { s' with toks := s'.toks + 1 }) r (by omega) fun h2 sb r2 => ?_
    have here : HeapedS w h2 S val (i + 1) := by
      refine ⟨_, _, r2, fun k => ?_, ?_⟩
      · rw [Bool.or_eq_true, decide_eq_true_eq, hf k]
        constructor
        · rintro (⟨j, hj, e⟩ | e)
          · exact ⟨j, by omega, e⟩
          · exact ⟨i, by omega, e.symm⟩
        · rintro ⟨j, hj, e⟩
          by_cases hji : j = i
          · subst hji
            exact Or.inr e.symm
          · exact Or.inl ⟨j, by omega, e⟩
      · split <;> omega
    have keepFp : ∀ b ∈ fp, ∀ o, s'.heap.get? b = some o → h2.get? b = some o := fun b hb o e => by
      rw [sb.2 b (fun z => out (by rw [← z]; exact hb))]
      exact e
    refine wpAny_pure ⟨plainId_quiet F.plain_set_update_loop _, ih (i + 1) _ (by omega) lt (W.frame _ s' _ _ st' (Nat.le_succ _) keepFp) here fun s'' mv2 hS2 => ?_⟩
    refine k s'' (Moved.trans W.gtrans ((mv.mono up).then_heap (Nat.le_succ _) fun b o hb e => ?_) mv2) hS2
    rw [sb.2 b (fun z => hb (by rw [z]; exact List.mem_cons_self))]
    exact e
end

section
variable {Pg : Program} {w : World} {A : Around} {E : Value → Shared → Prop} {s : Shared}
set_option maxHeartbeats 3200000 in
theorem call_set_strs {l : Addr} {items : Array Value} {ns : List Str} {Q : Value → Shared → Prop} (hh : A.handled = none) (hl : s.heap.IsList l items) (hi : StrsAre items.toList ns) (room : items.size + 1 < scanBound)
    (k : ∀ (g : Heap) (tk : Nat), HeapedS w g s.heap.objs.size (fun i => ns.getD i Str.empty) items.size → (∀ b o, b < s.heap.objs.size → s.heap.get? b = some o → g.get? b = some o) → Q (.ref s.heap.objs.size) { s with heap := g, toks := tk }) :
    wpAny (model Pg w) A (call (.type "set") [.ref l]) Q E s := by
  obtain ⟨c, tl, hmro⟩ := F.called_set.mro
  have m1 := F.called_set.made
  have m2 := F.called_set.sub
  refine wpAny_call (codeAny_of_tree ?_)
  show wpAny _ _ (callAny (Value.type "set") _) _ _ _
  refine wpAny_pure ⟨Code.quiet_builtin _ (by decide +kernel), codeAny_builtin F.entry_type_call ?_⟩
  rw [Around.under_plain (weight_type_call_type "set" [Value.ref l] []) rfl]
  have m3 := F.called_set.notType
  have m4 := F.called_set.canCreate
  have m5 := F.typeCall_set_1 (Value.ref l)
  repeat (any_goals (first | assumption | wp_step))
  generalize hfr : (s.heap.push { cls := .type "set", dict := none, data := .set #[] 0 (.fresh 0 0 (!w.params.followText "set-order")) }) = hp0
  have fresh0 : DlS.SetS w hp0 s.heap.objs.size (fun _ => false) 0 := by
    rw [← hfr]
    exact DlS.setS_fresh w
  have get0 : hp0.get? s.heap.objs.size = some { cls := .type "set", dict := none, data := .set #[] 0 (.fresh 0 0 (!w.params.followText "set-order")) } := by
    rw [← hfr]
    exact Heap.get?_push_size _ rfl
  have old0 : ∀ b o, s.heap.get? b = some o → hp0.get? b = some o := fun b o e => by
    rw [← hfr]
    exact Heap.get?_push_of_some _ e
  have size0 : hp0.objs.size = s.heap.objs.size + 1 := by
    rw [← hfr]
    exact Heap.size_push ..
  refine codeAny_mono (led_new1 (Value.ref l) (E := E) (Q1 := fun obj s1 => obj = .ref s.heap.objs.size ∧ s1 = { s with heap := hp0 }) ⟨rfl, by rw [hfr]⟩) fun r s1 hr => ?_
  cases r with
  | error e => exact hr
  | ok fl =>
    cases fl with
    | ret obj =>
      obtain ⟨rfl, rfl⟩ := hr
      have hT : Shared.TypeIs { s with heap := hp0 } (.ref s.heap.objs.size) "set" := ⟨_, get0, rfl⟩
      have i1 := F.called_set.init.lookup
      have i2 := F.called_set.init.bind (Value.ref s.heap.objs.size)
      repeat (any_goals (first | assumption | wp_step))
      refine codeAny_mono (codeAny_call_builtin (R := wants (fun r s2 => r = .none ∧ ∃ g tk, s2 = { s with heap := g, toks := tk } ∧ HeapedS w g s.heap.objs.size (fun i => ns.getD i Str.empty) items.size ∧
          (∀ b o, b < s.heap.objs.size → s.heap.get? b = some o → g.get? b = some o)) E) F.called_set.init.plain F.entry_set_init (check_set_init_1 hT ?_)) fun r2 s2 hr2 => ?_
      · obtain ⟨ol, hol, hcl, nl, hdl⟩ := hl
        obtain ⟨ocls, odict, odata, oslots⟩ := ol
        simp only at hcl hdl
        subst hcl
        subst hdl
        have hol' : hp0.get? l = some { cls := .type "list", dict := odict, data := .seq items nl, slots := oslots } := old0 _ _ hol
        have q1 := F.sub_list_set
        have q2 := F.sub_list_frozenset
        have q3 : (Value.type "list" == Value.type "dict") = false := by decide
        have isL : hp0.IsList l items := ⟨_, hol', rfl, nl, rfl⟩
        unfold Builtin.«set.__init__»
        unfold noKeywords
        unfold Builtin.Frozenset.updateFrom
        generalize hPI : pyIter = PI
        wp_walk
        subst hPI
        refine wpAny_pyIter_list isL (wpAny_bind (wpAny_runValue ?_))
        have lS : l < s.heap.objs.size := Heap.lt_size hol
        have h3 : A.in1.in1.in1.handled = none := by simp [hh]
        have apart : l ≠ hp0.objs.size := by
          rw [size0]
          exact Nat.ne_of_lt (Nat.lt_succ_of_lt lS)
        have outS : s.heap.objs.size ∉ [hp0.objs.size, l] := by
          rw [size0]
          simp only [List.mem_cons, List.not_mem_nil, or_false, not_or]
          exact ⟨Nat.ne_of_lt (Nat.lt_succ_self _), Nat.ne_of_gt lS⟩
        have isV : ∀ (i : Nat) (v : Value), items[i]? = some v → ∃ t, v = .str ((fun i => ns.getD i Str.empty) i) t := fun i v hv => strs_get hi i v (by rw [Array.getElem?_toList]; exact hv)
        refine heap_loopS ((PySem.Walks.list h3 _ l apart items).toS) s.heap.objs.size outS (fun i => ns.getD i Str.empty) isV room (items.size - 0) 0 _ (by omega) (Nat.zero_le _) ⟨⟨_, Heap.get?_push_size _ rfl, rfl, rfl⟩, isL.push _⟩ ?_ ?_
        · refine ⟨fun _ => false, 0, fresh0.at fun o e => Heap.get?_push_of_some _ e, fun k => ?_, Nat.le_refl 0⟩
          constructor
          · intro z
            cases z
          · rintro ⟨j, hj, _⟩
            omega
        · intro s' hm hS'
          obtain ⟨g, gs, dr, tk, os⟩ := s'
          have e1 : gs = s.gens := hm.gens
          have e2 : dr = s.drawn := hm.drawn
          have e3 : os = s.os := hm.os
          subst e1
          subst e2
          subst e3
          show wpAny _ _ _ _ _ _
          refine wpAny_pure ?_
          show wpAny _ _ (ret Value.none) _ _ _
          refine wpAny_pure ⟨rfl, g, tk, rfl, hS', fun b o hb e => ?_⟩
          refine hm.heap b o ?_ (Heap.get?_push_of_some _ (old0 b o e))
          simp only [List.mem_cons, List.not_mem_nil, or_false, not_or]
          exact ⟨Nat.ne_of_lt hb, by rw [size0]; exact Nat.ne_of_lt (Nat.lt_succ_of_lt hb)⟩
      · cases r2 with
        | error e => exact hr2
        | ok fl2 =>
          cases fl2 with
          | ret r =>
            obtain ⟨rfl, g, tk, rfl, hS', hk'⟩ := hr2
            repeat (any_goals (first | assumption | wp_step))
            exact k _ _ hS' hk'
          | _ => exact hr2.elim
    | _ => exact hr.elim
end

/-- set(xs), xs a list of ints -/
def rSetW (K : PySem.W.Frag) (w : World) : List V → Hp → VK → Prop := fun xs H Q => ∃ (l : Addr) (ns : List Str), xs = [.ref l] ∧ SqL K H l (ns.map V.str) ∧ ns.length ≤ 4000 ∧
  ∀ (p : Addr) (f : Str → Bool) (c : Nat), H p = none → (∀ k, f k = true ↔ k ∈ ns) → c ≤ ns.length → Q (.ref p) (upd H p (DlS.SetSO w p f c))
theorem call_setW {X : Cx} (hc : X.calm = true) : CallR X (.type "set") (rSetW X.K X.w) := by
  intro pins s σ H xs us Q I r h
  obtain ⟨l, ns, rfl, hq, hz, q⟩ := h
  obtain ⟨u, rfl, ru⟩ := vals1 r
  cases ru
  obtain ⟨its, rv, pl, _⟩ := I.list hq
  have len : its.toArray.size = ns.length := by rw [List.size_toArray, ← rv.length, List.length_map]
  refine call_set_strs (I.ok.hd hc) pl.isList (ns := ns) (by simpa using Vals.strs rv) (by rw [len]; unfold scanBound; omega) fun g tk hS hk => ?_
  obtain ⟨f, c, rS, hf, hcl⟩ := hS
  have J : Inv X pins σ (upd H s.heap.objs.size (DlS.SetSO X.w s.heap.objs.size f c)) { s with heap := g, toks := tk } := I.laid (t' := tk) (fun b o e => hk b o (Heap.lt_size e) e) (Nat.le_refl _) (DlS.setSO_new rS)
  refine ⟨.ref s.heap.objs.size, _, J, rfl, q _ f c (I.hok.fresh (Nat.le_refl _)) (fun k => ?_) (by rw [← len]; exact hcl)⟩
  rw [hf k, len]
  constructor
  · rintro ⟨j, hj, e⟩
    rw [← e]
    show ns.getD j Str.empty ∈ ns
    rw [List.getD_eq_getElem?_getD, List.getElem?_eq_getElem hj]
    exact List.getElem_mem hj
  · intro hk
    obtain ⟨j, hj, e⟩ := List.getElem_of_mem hk
    exact ⟨j, hj, by show ns.getD j Str.empty = k; rw [List.getD_eq_getElem?_getD, List.getElem?_eq_getElem hj]; exact e⟩
section
variable {K : PySem.W.Frag} {W : Fx} {ρ : List Sk} {te : TE}
/-- sorted(set(xs)), xs texts -/
theorem evf_sortSetW {w : World} {PN : List Str → Prop} (h : EvB K W te ρ (fun ds => ∃ zs : List Str, ds = zs.map .str ∧ zs.length ≤ 900 ∧ PN zs)) :
    EvF K W (tCB (rSortedS w) (tCons (tCB (rSetW K w) (tCons te tNil)) tNil)) ρ (fun es => ∃ zs ns : List Str, PN zs ∧ StrU ns ∧ (∀ k, k ∈ ns ↔ k ∈ zs) ∧ ns.length ≤ zs.length ∧ es = ns.map .str) := fun D0 H0 D H σ e Q q =>
  h D0 H0 D H σ e _ fun l xs D1 H1 ds s1 hl q1 ⟨zs, e1, hz, p⟩ => by
    subst e1
    have o1 := s1.ok e.ok
    have ex := q1.isStrs
    subst ex
    refine ⟨l, zs, rfl, hl, by omega, fun a f c ha hf hc => ?_⟩
    have s2 : Step W D H D1 (upd H1 a (DlS.SetSO w a f c)) := s1.trans e.ok (.keptH o1 (same_new ha))
    have o2 := s2.ok e.ok
    refine ⟨a, f, c, rfl, upd_same, by omega, fun ns b h1 h2 h3 h4 => ?_⟩
    exact q b _ D1 _ _ (s2.trans e.ok (.keptH o2 (same_new h4))) (fresh_of e.ok s2 h4) (o2.sub.free h4) upd_same (DqA.strs ns) ⟨zs, ns, p, h1, fun k => (h2 k).trans (hf k), by omega, rfl⟩
end
end Dl

/-! ## What a def computes, as a Lean function of what follows (typed data) -/
namespace Dl
open PySem PySem.Spec L2 PyProof.Rows

/-! ### words of the functional text -/
def lt {α : Type} (a : α) (Q : α → Prop) : Prop := Q a
def gd (c : Prop) (Q : Prop) : Prop := c ∧ Q
def ixW {α : Type} (xs : List α) (i : Int) (Q : α → Prop) : Prop := ∃ a, atI xs i = some a ∧ Q a
/-- a loop: the body of an item and of what stands, with what follows and what follows a break -/
def loopW {α σ : Type} (body : α → σ → (σ → Prop) → (σ → Prop) → Prop) : List α → σ → (σ → Prop) → Prop
  | [], s, k => k s
  | x :: xs, s, k => body x s (fun s' => loopW body xs s' k) k
def whileN {σ : Type} (test : σ → (Bool → Prop) → Prop) (body : σ → (σ → Prop) → (σ → Prop) → Prop) : Nat → σ → (σ → Prop) → Prop
  | 0, _, _ => False
  | n + 1, s, k => test s fun b => if b = true then body s (fun s' => whileN test body n s' k) k else k s
def whileW {σ : Type} (test : σ → (Bool → Prop) → Prop) (body : σ → (σ → Prop) → (σ → Prop) → Prop) (s : σ) (k : σ → Prop) : Prop := ∃ n, whileN test body n s k
/-- a comprehension: what an item gives, if it is taken -/
def fmGo {α β : Type} (f : α → (Option β → Prop) → Prop) : List α → (List β → Prop) → Prop
  | [], k => k []
  | x :: xs, k => f x fun o => match o with
    | some y => fmGo f xs fun ys => k (y :: ys)
    | none => fmGo f xs k
def fmW {α β : Type} (xs : List α) (f : α → (Option β → Prop) → Prop) (k : List β → Prop) : Prop := xs.length ≤ sizeLine ∧ fmGo f xs k
/-- two ways that meet again -/
def joinW {σ : Type} (f : (σ → Prop) → Prop) (k : σ → Prop) : Prop := f k
def ifW (b : Bool) (p q : Prop) : Prop := if b = true then p else q
def andW (b : Bool) (w : (Bool → Prop) → Prop) (k : Bool → Prop) : Prop := if b = true then w k else k false
def orW (b : Bool) (w : (Bool → Prop) → Prop) (k : Bool → Prop) : Prop := if b = true then k true else w k
def iteW {α : Type} (b : Bool) (w v : (α → Prop) → Prop) (k : α → Prop) : Prop := if b = true then w k else v k

/-! ### how typed data is told -/
abbrev eI : Int → PyData := PyData.int
abbrev eS : Str → PyData := PyData.str
abbrev eB : Bool → PyData := PyData.bool
abbrev eN : Unit → PyData := fun _ => PyData.none
abbrev eA : PyData → PyData := fun d => d
abbrev eK : Key → PyData := kD
abbrev eT1 {α : Type} (a : α → PyData) : α → PyData := fun p => .tuple [a p]
abbrev eT2 {α β : Type} (a : α → PyData) (b : β → PyData) : α × β → PyData := fun p => .tuple [a p.1, b p.2]
abbrev eT3 {α β γ : Type} (a : α → PyData) (b : β → PyData) (c : γ → PyData) : α × β × γ → PyData := fun p => .tuple [a p.1, b p.2.1, c p.2.2]
abbrev eT4 {α β γ δ : Type} (a : α → PyData) (b : β → PyData) (c : γ → PyData) (d : δ → PyData) : α × β × γ × δ → PyData := fun p => .tuple [a p.1, b p.2.1, c p.2.2.1, d p.2.2.2]
abbrev eT5 {α β γ δ ε : Type} (a : α → PyData) (b : β → PyData) (c : γ → PyData) (d : δ → PyData) (e : ε → PyData) : α × β × γ × δ × ε → PyData := fun p => .tuple [a p.1, b p.2.1, c p.2.2.1, d p.2.2.2.1, e p.2.2.2.2]
abbrev eL2 {α β : Type} (a : α → PyData) (b : β → PyData) : α × β → PyData := fun p => .list [a p.1, b p.2]
abbrev eL3 {α β γ : Type} (a : α → PyData) (b : β → PyData) (c : γ → PyData) : α × β × γ → PyData := fun p => .list [a p.1, b p.2.1, c p.2.2]
abbrev eTup {α : Type} (a : α → PyData) : List α → PyData := fun xs => .tuple (xs.map a)
abbrev eLst {α : Type} (a : α → PyData) : List α → PyData := fun xs => .list (xs.map a)
abbrev eOpt {α : Type} (a : α → PyData) : Option α → PyData := fun o => match o with | some x => a x | none => .none

/-! ### slots that know less -/
structure Le (ρ ρ' : List Sk) : Prop where
  len : ρ.length = ρ'.length
  at' : ∀ (i : Nat) k, ρ'[i]? = some k → k = .any ∨ ρ[i]? = some k
theorem Le.nil : Le [] [] := ⟨rfl, fun _ _ h => by simp at h⟩
theorem Le.any {ρ ρ' : List Sk} {x : Sk} (h : Le ρ ρ') : Le (x :: ρ) (.any :: ρ') := ⟨by rw [List.length_cons, List.length_cons, h.len], fun i k e => by
  cases i with
  | zero =>
    cases e
    exact Or.inl rfl
  | succ i => exact h.at' i k e⟩
theorem Le.eq {ρ ρ' : List Sk} {x : Sk} (h : Le ρ ρ') : Le (x :: ρ) (x :: ρ') := ⟨by rw [List.length_cons, List.length_cons, h.len], fun i k e => by
  cases i with
  | zero => exact Or.inr e
  | succ i => exact h.at' i k e⟩
theorem Le.refl (ρ : List Sk) : Le ρ ρ := ⟨rfl, fun _ _ h => Or.inr h⟩

section
variable {K : PySem.W.Frag} {W : Fx} {EX : Hp → Prop} {D0 H0 D H : Hp} {σ : L2.St} {ρ ρ' : List Sk}
theorem Env.weak (e : Env K W D0 H0 D H σ ρ) (l : Le ρ ρ') : Env K W D0 H0 D H σ ρ' where
  ok0 := e.ok0
  st := e.st
  slot := fun i k h => by
    rcases l.at' i k h with rfl | h1
    · have hi : i < ρ'.length := (List.getElem?_eq_some_iff.mp h).1
      have hs : i < σ.length := e.lt (List.getElem?_eq_getElem (by rw [l.len]; exact hi))
      exact ⟨_, List.getElem?_eq_getElem hs, trivial⟩
    · exact e.slot i k h1
  dist := fun i j a s t ds es h1 h2 => by
    have f1 := (l.at' i _ h1).resolve_left (fun z => by cases z)
    have f2 := (l.at' j _ h2).resolve_left (fun z => by cases z)
    exact e.dist i j a s t ds es f1 f2
theorem StG.weak {ts : TS} {O : Out} (h : StG K W EX ts ρ' O) (l : Le ρ ρ') : StG K W EX ts ρ O := fun D0 H0 D H σ Dn e => h D0 H0 D H σ Dn (e.weak l)
theorem EvG.weak {g : TG} {d : PyData} {ρ2 : List Sk} {js : List Nat} (h : EvG K W g ρ' d ρ2 js) (l : Le ρ ρ') : EvG K W g ρ d ρ2 js := fun D0 H0 D H σ e => h D0 H0 D H σ (e.weak l)
theorem EvT.weak {t : TT} {P : Bool → Prop} (h : EvT K W t ρ' P) (l : Le ρ ρ') : EvT K W t ρ P := fun D0 H0 D H σ e => h D0 H0 D H σ (e.weak l)
end

/-! ### what evaluates to what, in the words of what follows -/
section
variable (K : PySem.W.Frag) (W : Fx) {α β : Type}
def EvW (te : TE) (ρ : List Sk) (e : α → PyData) (w : (α → Prop) → Prop) : Prop := ∀ Q, w Q → EvN K W te ρ (fun d => ∃ a, d = e a ∧ Q a)
def EvFW (te : TE) (ρ : List Sk) (e : α → PyData) (w : (List α → Prop) → Prop) : Prop := ∀ Q, w Q → EvF K W te ρ (fun ds => ∃ xs, ds = xs.map e ∧ Q xs)
def EvBW (te : TE) (ρ : List Sk) (e : α → PyData) (w : (List α → Prop) → Prop) : Prop := ∀ Q, w Q → EvB K W te ρ (fun ds => ∃ xs, ds = xs.map e ∧ Q xs)
def EvIW (wi : TI) (ρ : List Sk) (e : α → PyData) (w : (List α → Prop) → Prop) : Prop := ∀ Q, w Q → EvI K W wi ρ (fun ds => ∃ xs, ds = xs.map e ∧ Q xs)
def EvAW (ta : TA) (ρ : List Sk) (e : α → List PyData) (w : (α → Prop) → Prop) : Prop := ∀ Q, w Q → EvA K W ta ρ (fun ds => ∃ a, ds = e a ∧ Q a)
def EvTW (tt : TT) (ρ : List Sk) (w : (Bool → Prop) → Prop) : Prop := ∀ Q, w Q → EvT K W tt ρ Q
end
section
variable {K : PySem.W.Frag} {W : Fx} {ρ : List Sk} {α β γ : Type} {ta tb tc te : TE} {tt tu : TT} {e ea : α → PyData} {eb : β → PyData} {ec : γ → PyData}
theorem EvN.w {a : α} (h : EvD K W te ρ (e a)) : EvW K W te ρ e (fun Q => lt a Q) := fun Q q => h.imp fun d z => ⟨a, z, q⟩
theorem EvT.w {b : Bool} (h : EvT K W tt ρ (· = b)) : EvTW K W tt ρ (fun Q => lt b Q) := fun Q q => h.imp fun d z => by rw [z]; exact q
theorem EvF.w {xs : List α} (h : EvF K W te ρ (· = xs.map e)) : EvFW K W te ρ e (fun Q => lt xs Q) := fun Q q => h.imp fun d z => ⟨xs, z, q⟩
theorem EvB.w {xs : List α} (h : EvB K W te ρ (· = xs.map e)) : EvBW K W te ρ e (fun Q => lt xs Q) := fun Q q D0 H0 D H σ en R r => h D0 H0 D H σ en R fun l vs D' H' ds s a d z => r l vs D' H' ds s a d ⟨xs, z, q⟩
theorem EvI.imp {wi : TI} {P1 P2 : List PyData → Prop} (h : EvI K W wi ρ P1) (f : ∀ d, P1 d → P2 d) : EvI K W wi ρ P2 := fun D0 H0 D H σ en R r => h D0 H0 D H σ en R fun J D' H' ds s wk p => r J D' H' ds s wk (f ds p)
theorem EvI.w {wi : TI} {xs : List α} (h : EvI K W wi ρ (· = xs.map e)) : EvIW K W wi ρ e (fun Q => lt xs Q) := fun Q q => h.imp fun d z => ⟨xs, z, q⟩
theorem EvFW.w {w : (List α → Prop) → Prop} (h : EvFW K W te ρ e w) : EvW K W te ρ (eLst e) w := fun Q q => (h Q q).ev.imp fun d ⟨ds, ⟨xs, z, p⟩, z2⟩ => ⟨xs, by rw [z2, z], p⟩
theorem EvFW.b {w : (List α → Prop) → Prop} (h : EvFW K W te ρ e w) : EvBW K W te ρ e w := fun Q q => (h Q q).evB
theorem EvW.b {w : (List α → Prop) → Prop} (h : EvW K W te ρ (eLst e) w) : EvBW K W te ρ e w := fun Q q => EvN.evB ((h Q q).imp fun d ⟨xs, z, p⟩ => ⟨xs.map e, ⟨xs, rfl, p⟩, z⟩)
/-- one thing behind another -/
theorem ev_opP {r : R2} {P1 P : PyData → Prop} {P2 : PyData → PyData → Prop} (ha : EvN K W ta ρ P1) (hb : ∀ d1, P1 d1 → EvN K W tb ρ (P2 d1)) (hr : ∀ d1 d2, P1 d1 → P2 d1 d2 → RD K W r d1 d2 P) : EvN K W (tOp r ta tb) ρ P := fun D0 H0 D H σ e Q q =>
  ha D0 H0 D H σ e _ fun x1 D1 H1 d1 s1 q1 p1 => hb d1 p1 D0 H0 D1 H1 σ (e.step s1) _ fun y D2 H2 d2 s2 q2 p2 =>
    hr d1 d2 p1 p2 D2 H2 x1 y (s2.ok (s1.ok e.ok)) (q1.up s2.gro) q2 Q fun v D3 H3 d s3 q3 p3 => q v D3 H3 d ((s1.trans e.ok s2).trans e.ok s3) q3 p3
theorem evw_op {r : R2} {wa : (α → Prop) → Prop} {wb : (β → Prop) → Prop} {wr : α → β → (γ → Prop) → Prop} (ha : EvW K W ta ρ ea wa) (hb : EvW K W tb ρ eb wb)
    (hr : ∀ a b Q, wr a b Q → RD K W r (ea a) (eb b) (fun d => ∃ c, d = ec c ∧ Q c)) : EvW K W (tOp r ta tb) ρ ec (fun Q => wa fun a => wb fun b => wr a b Q) := fun Q q =>
  ev_opP (ha _ q) (P2 := fun d1 d2 => ∃ a b, d1 = ea a ∧ d2 = eb b ∧ wr a b Q) (fun d1 ⟨a, z, p⟩ => (hb _ p).imp fun d2 ⟨b, z2, p2⟩ => ⟨a, b, z, z2, p2⟩) fun d1 d2 _ ⟨a, b, z, z2, p⟩ => by
    rw [z, z2]
    exact hr a b Q p
/-- total operations -/
theorem RD.w {r : R2} {f : α → β → γ} (h : ∀ a b, RD K W r (ea a) (eb b) (· = ec (f a b))) : ∀ a b (Q : γ → Prop), lt (f a b) Q → RD K W r (ea a) (eb b) (fun d => ∃ c, d = ec c ∧ Q c) := fun a b Q q D H x y o hx hy R r2 =>
  h a b D H x y o hx hy R fun v D' H' d s dq z => r2 v D' H' d s dq ⟨_, z, q⟩
theorem eaw_nil : EvAW K W tNil ρ (fun _ : Unit => []) (fun Q => Q ()) := fun Q q => ea_nil.imp fun d z => ⟨(), z, q⟩
theorem ea_consP {tr : TA} {P1 : PyData → Prop} {P2 : PyData → List PyData → Prop} (h : EvN K W te ρ P1) (hr : ∀ d, P1 d → EvA K W tr ρ (P2 d)) : EvA K W (tCons te tr) ρ (fun ds => ∃ d r, ds = d :: r ∧ P1 d ∧ P2 d r) := fun D0 H0 D H σ e Q q =>
  h D0 H0 D H σ e _ fun v D1 H1 d s1 q1 p1 => hr d p1 D0 H0 D1 H1 σ (e.step s1) _ fun vs D2 H2 ds s2 q2 p2 => q (v :: vs) D2 H2 (d :: ds) (s1.trans e.ok s2) (.cons (q1.up s2.gro) q2) ⟨d, ds, rfl, p1, p2⟩
theorem eaw_one {w : (α → Prop) → Prop} (h : EvW K W te ρ e w) : EvAW K W (tCons te tNil) ρ (fun a => [e a]) w := fun Q q =>
  (ea_consP (h Q q) fun _ _ => ea_nil).imp fun d ⟨x, r, z, ⟨a, z1, p⟩, z2⟩ => ⟨a, by rw [z, z1, z2], p⟩
theorem eaw_cons {tr : TA} {er : β → List PyData} {w : (α → Prop) → Prop} {v : (β → Prop) → Prop} (h : EvW K W te ρ e w) (hr : EvAW K W tr ρ er v) : EvAW K W (tCons te tr) ρ (fun p : α × β => e p.1 :: er p.2) (fun Q => w fun a => v fun b => Q (a, b)) := fun Q q =>
  (ea_consP (h _ q) (P2 := fun d ds => ∃ a b, d = e a ∧ ds = er b ∧ Q (a, b)) fun d ⟨a, z, p⟩ => (hr _ p).imp fun ds ⟨b, z2, p2⟩ => ⟨a, b, z, z2, p2⟩).imp fun d ⟨x, r, z, _, ⟨a, b, z2, z3, p⟩⟩ => ⟨(a, b), by rw [z, z2, z3], p⟩
/-- a tuple of things -/
theorem evw_tup {ta : TA} {ea : α → List PyData} {ec : α → PyData} {w : (α → Prop) → Prop} (h : EvAW K W ta ρ ea w) (hc : ∀ a, ec a = .tuple (ea a)) (hl : ∀ a, (ea a).length ≤ sizeLine) : EvW K W (tTup ta) ρ ec w := fun Q q =>
  (ev_tup (h Q q) fun ds ⟨a, z, _⟩ => by rw [z]; exact hl a).imp fun d ⟨ds, ⟨a, z, p⟩, z2⟩ => ⟨a, by rw [z2, z, hc], p⟩
theorem evfw_lst {ta : TA} {ea : α → List PyData} {f : α → List β} {w : (α → Prop) → Prop} (h : EvAW K W ta ρ ea w) (hc : ∀ a, ea a = (f a).map eb) (hl : ∀ a, (ea a).length ≤ sizeLine) : EvFW K W (tLst ta) ρ eb (fun Q => w fun a => lt (f a) Q) := fun Q q =>
  (evf_lst (h _ q) fun ds ⟨a, z, _⟩ => by rw [z]; exact hl a).imp fun ds ⟨a, z, p⟩ => ⟨f a, by rw [z, hc], p⟩
/-- a list of unlike things -/
theorem evw_lstU {ta : TA} {ea : α → List PyData} {ec : α → PyData} {w : (α → Prop) → Prop} (h : EvAW K W ta ρ ea w) (hc : ∀ a, ec a = .list (ea a)) (hl : ∀ a, (ea a).length ≤ sizeLine) : EvW K W (tLst ta) ρ ec w := fun Q q =>
  (evf_lst (h Q q) fun ds ⟨a, z, _⟩ => by rw [z]; exact hl a).ev.imp fun d ⟨ds, ⟨a, z, p⟩, z2⟩ => ⟨a, by rw [z2, z, hc], p⟩
/-- a built-in's call -/
theorem evw_cb {r : List V → Hp → VK → Prop} {ta : TA} {ea : α → List PyData} {w : (α → Prop) → Prop} {wr : α → (γ → Prop) → Prop} (h : EvAW K W ta ρ ea w) (hr : ∀ a Q, wr a Q → RC K W r (ea a) (fun d => ∃ c, d = ec c ∧ Q c)) : EvW K W (tCB r ta) ρ ec (fun Q => w fun a => wr a Q) := fun Q q =>
  ev_cb (h _ q) fun ds ⟨a, z, p⟩ => by
    rw [z]
    exact hr a Q p
theorem RC.w {r : List V → Hp → VK → Prop} {ea : α → List PyData} {f : α → γ} (h : ∀ a, RC K W r (ea a) (· = ec (f a))) : ∀ a (Q : γ → Prop), lt (f a) Q → RC K W r (ea a) (fun d => ∃ c, d = ec c ∧ Q c) := fun a Q q D H vs o hv R r2 =>
  h a D H vs o hv R fun v D' H' d s dq z => r2 v D' H' d s dq ⟨_, z, q⟩
/-! tests -/
theorem etw_test {w : (Bool → Prop) → Prop} (h : EvW K W te ρ eB w) : EvTW K W (tTest te) ρ w := fun Q q => et_test (h Q q) fun d ⟨b, z, p⟩ => ⟨b, z, p⟩
theorem etw_B {w : (Bool → Prop) → Prop} (h : EvW K W te ρ eB w) : EvTW K W (tB te) ρ w := fun Q q => et_B (h Q q) fun d ⟨b, z, p⟩ => ⟨b, z, p⟩
theorem etw_not {w : (Bool → Prop) → Prop} (h : EvTW K W tt ρ w) : EvTW K W (tNot tt) ρ (fun Q => w fun b => lt (!b) Q) := fun Q q D0 H0 D H σ en R r =>
  h (fun b => Q (!b)) q D0 H0 D H σ en _ fun b D' H' s p => r (!b) D' H' s p
theorem etw_and {w v : (Bool → Prop) → Prop} (h1 : EvTW K W tt ρ w) (h2 : EvTW K W tu ρ v) : EvTW K W (tAnd tt tu) ρ (fun Q => w fun b => andW b v Q) := fun Q q =>
  et_and (h1 _ q) (fun p => h2 Q p) fun p => p
theorem etw_or {w v : (Bool → Prop) → Prop} (h1 : EvTW K W tt ρ w) (h2 : EvTW K W tu ρ v) : EvTW K W (tOr tt tu) ρ (fun Q => w fun b => orW b v Q) := fun Q q =>
  et_or (h1 _ q) (fun p => h2 Q p) fun p => p
/-! values by cases -/
theorem evw_if {w : (Bool → Prop) → Prop} {va vb : (α → Prop) → Prop} (h : EvTW K W tt ρ w) (ha : EvW K W ta ρ e va) (hb : EvW K W tb ρ e vb) : EvW K W (tIf tt ta tb) ρ e (fun Q => w fun b => iteW b va vb Q) := fun Q q =>
  ev_if (h _ q) (fun p => ha Q p) fun p => hb Q p
theorem evd_if {b : Bool} {x y : α} (h : EvT K W tt ρ (· = b)) (ha : EvD K W ta ρ (e x)) (hb : EvD K W tb ρ (e y)) : EvD K W (tIf tt ta tb) ρ (e (if b = true then x else y)) :=
  ev_ifD h (fun z => by rw [if_pos z]; exact ha) fun z => by rw [z]; exact hb
theorem evw_and {w v : (Bool → Prop) → Prop} (h1 : EvW K W ta ρ eB w) (h2 : EvW K W tb ρ eB v) : EvW K W (tAndV ta tb) ρ eB (fun Q => w fun b => andW b v Q) := fun Q q D0 H0 D H σ en R r =>
  h1 _ q D0 H0 D H σ en _ fun v' D1 H1 d s1 q1 ⟨b, z, p⟩ => by
    subst z
    cases q1
    refine ⟨b, rfl, ?_⟩
    cases b with
    | true => exact iteT (h2 Q p D0 H0 D1 H1 σ (en.step s1) _ fun u D2 H2 d2 s2 q2 p2 => r u D2 H2 d2 (s1.trans en.ok s2) q2 p2)
    | false => exact iteF (r _ D1 H1 _ s1 (.bl false) ⟨false, rfl, p⟩)
theorem evw_or {w v : (Bool → Prop) → Prop} (h1 : EvW K W ta ρ eB w) (h2 : EvW K W tb ρ eB v) : EvW K W (tOrV ta tb) ρ eB (fun Q => w fun b => orW b v Q) := fun Q q D0 H0 D H σ en R r =>
  h1 _ q D0 H0 D H σ en _ fun v' D1 H1 d s1 q1 ⟨b, z, p⟩ => by
    subst z
    cases q1
    refine ⟨b, rfl, ?_⟩
    cases b with
    | true => exact iteT (r _ D1 H1 _ s1 (.bl true) ⟨true, rfl, p⟩)
    | false => exact iteF (h2 Q p D0 H0 D1 H1 σ (en.step s1) _ fun u D2 H2 d2 s2 q2 p2 => r u D2 H2 d2 (s1.trans en.ok s2) q2 p2)
theorem evw_not {w : (Bool → Prop) → Prop} (h1 : EvW K W ta ρ eB w) : EvW K W (tNotV ta) ρ eB (fun Q => w fun b => lt (!b) Q) := fun Q q D0 H0 D H σ en R r =>
  h1 _ q D0 H0 D H σ en _ fun v' D1 H1 d s1 q1 ⟨b, z, p⟩ => by
    subst z
    cases q1
    exact ⟨b, rfl, r _ D1 H1 _ s1 (.bl _) ⟨_, rfl, p⟩⟩
end
end Dl

/-! ## Blocks, loops, defs -/
namespace Dl
open PySem PySem.Spec L2 PyProof.Rows
section
variable {K : PySem.W.Frag} {W : Fx} {ρ ρ' : List Sk} {te : TE} {d : PyData} {ds : List PyData} {wi : TI} {g : TG} {tt : TT} {vs : List Nat} {P : List PyData → Prop}
theorem evf_lcS (hv : ∀ v ∈ vs, v < ρ.length) (hI : EvI K W wi ρ P) (Iv : List PyData → Nat → List PyData → Prop) (h0 : ∀ ds, P ds → Iv ds 0 []) (hn : ∀ ds, P ds → ds.length ≤ sizeLine)
    (hs : ∀ ds i d acc, P ds → ds[i]? = some d → Iv ds i acc → ∃ ρ' js Pt Pe, (∀ j ∈ js, j ∈ vs) ∧ EvG K W g (wipeR ρ vs) d ρ' js ∧ EvT K W tt ρ' Pt ∧
      (Pt true → EvN K W te ρ' Pe ∧ ∀ y, Pe y → Iv ds (i + 1) (acc ++ [y])) ∧ (Pt false → Iv ds (i + 1) acc)) :
    EvF K W (tLc wi g tt te vs) ρ (fun es => ∃ ds, P ds ∧ Iv ds ds.length es) := fun D0 H0 D H σ e Q q => by
  refine hI D0 H0 D H σ e _ fun J D1 H1 ds s1 wk p => ?_
  intro L hL
  have e1 := e.step s1
  have o1 := e1.ok
  have hHL : H L = none := by
    cases z : H L with
    | none => rfl
    | some u =>
      by_cases hw : W.adr L
      · exact (W.has H1 L s1.inv hw hL).elim
      · rw [s1.off L u hw z] at hL
        cases hL
  have hwL : ¬ W.adr L := fun hw => W.has H1 L s1.inv hw hL
  -- the invariant: from (D1, H1) without L
  let St (i : Nat) (H2 : Hp) : Prop := i ≤ ds.length ∧ ∃ D2 xs acc, Step W D1 H1 D2 H2 ∧ D2 L = none ∧ H2 L = some (.lst xs) ∧ DqA K D2 xs acc ∧ acc.length ≤ i ∧ Iv ds i acc
  have sL : Step W D1 H1 D1 (upd H1 L (.lst [])) := .keptH o1 (same_new hL)
  refine ⟨fun i m H2 => m = ds.length - i ∧ St i H2, ⟨_, rfl, Nat.zero_le _, D1, [], [], sL, o1.sub.free hL, upd_same, .nil, Nat.le_refl _, h0 ds p⟩, ?_⟩
  rintro i m H2 ⟨rfl, hi, D2, xs, acc, s2, d2, l2, q2, hlen, iv⟩
  have e2 := e1.step s2
  by_cases hlt : i < ds.length
  · have hd : ds[i]? = some ds[i] := List.getElem?_eq_getElem hlt
    obtain ⟨hgo, hy⟩ := (wk i D2 H2 e2.ok s2.gro).1 _ hd
    refine Or.inr ⟨hgo, St (i + 1), fun H' h' => ⟨_, ?_, rfl, h'⟩, fun x H3 y => ?_⟩
    · have := h'.1
      omega
    · obtain ⟨D3, s3, qx⟩ := hy x H3 y
      obtain ⟨ρ', js, Pt, Pe, hjs, hg, ht, hT, hF⟩ := hs ds i _ acc p hd iv
      have e3 := (e2.step s3).wipe vs hv
      refine hg D0 H0 D3 H3 _ e3 x qx _ fun σ4 D4 H4 s4 e4 l4 c4 => ⟨?_, ?_⟩
      · rw [wipe_eq l4 hjs c4, wipe_idem]
      · refine ht D0 H0 D4 H4 σ4 e4 _ fun b D5 H5 s5 pb => ?_
        have e5 := e4.step s5
        have sA : Step W D2 H2 D5 H5 := (s3.trans e2.ok s4).trans e2.ok s5
        cases b with
        | false =>
          refine iteF ⟨hlt, D5, xs, acc, s2.trans o1 sA, ?_, sA.off L _ hwL l2, q2.up sA.gro, Nat.le_succ_of_le hlen, hF pb⟩
          exact sA.new L d2 (by rw [l2]; exact fun z => nomatch z) (by rw [l2]; exact fun _ z => nomatch z)
        | true =>
          obtain ⟨hE, hP⟩ := hT pb
          refine iteT (hE D0 H0 D5 H5 σ4 e5 _ fun v D6 H6 d6 s6 q6 p6 => ?_)
          have sB : Step W D2 H2 D6 H6 := sA.trans e2.ok s6
          have l6 : H6 L = some (.lst xs) := sB.off L _ hwL l2
          have n6 : D6 L = none := sB.new L d2 (by rw [l2]; exact fun z => nomatch z) (by rw [l2]; exact fun _ z => nomatch z)
          have sC : Step W D1 H1 D6 H6 := s2.trans o1 sB
          refine ⟨xs, l6, ?_, hlt, D6, xs ++ [v], acc ++ [d6], ⟨sC.gro, fun b u z => ?_, fun b u hw z => ?_, sC.new, ?_⟩, n6, upd_same, (q2.up sB.gro).app (.cons q6 .nil), by rw [List.length_append]; exact Nat.succ_le_succ hlen, hP d6 p6⟩
          · have h1 := hn ds p
            have h2 : xs.length < ds.length := by
              rw [q2.len]
              omega
            exact Nat.lt_of_lt_of_le h2 h1
          · rw [upd_ne (fun w => by rw [w, n6] at z; cases z)]
            exact sC.sub b u z
          · rw [upd_ne (fun w => by rw [w, hL] at z; cases z)]
            exact sC.off b u hw z
          · refine W.keep H6 _ sC.inv fun b u hb z => ?_
            rw [upd_ne (fun w => hwL (by rw [← w]; exact hb))]
            exact z
  · have hie : i = ds.length := by omega
    subst hie
    refine Or.inl ⟨(wk _ D2 H2 e2.ok s2.gro).2 (Nat.le_refl _), ?_⟩
    exact q L xs D2 H2 acc (s1.trans e.ok s2) hHL d2 l2 q2 ⟨ds, p, iv⟩
end
section
variable {K : PySem.W.Frag} {W : Fx} {EX : Hp → Prop} {ρ : List Sk} {α β σ : Type} {te : TE} {tt : TT} {t1 t2 tr tb : TS} {O : Out} {e : α → PyData} {i : Nat}
theorem st_setW {w : (α → Prop) → Prop} {Q : α → Prop} (hi : i < ρ.length) (h : EvW K W te ρ e w) (q : w Q) (k : ∀ a, Q a → StG K W EX tr (ρ.set i (.dat (e a))) O) : StG K W EX (tSeq (tAsg te (gName i)) tr) ρ O :=
  st_set hi (h Q q) fun d ⟨a, z, p⟩ => by
    rw [z]
    exact k a p
theorem st_setF {w : (List α → Prop) → Prop} {Q : List α → Prop} (hi : i < ρ.length) (h : EvFW K W te ρ e w) (q : w Q) (k : ∀ a, Q a → StG K W EX tr (ρ.set i (.own (a.map e))) O) : StG K W EX (tSeq (tAsg te (gName i)) tr) ρ O :=
  st_setOwn hi (h Q q) fun d ⟨a, z, p⟩ => by
    rw [z]
    exact k a p
/-- an assignment to a target -/
theorem st_asgW {g : TG} {w : (α → Prop) → Prop} {Q : α → Prop} {ρ2 : α → List Sk} {js : List Nat} (h : EvW K W te ρ e w) (q : w Q) (hg : ∀ a, EvG K W g ρ (e a) (ρ2 a) js) (k : ∀ a, Q a → StG K W EX tr (ρ2 a) O) : StG K W EX (tSeq (tAsg te g) tr) ρ O :=
  st_asgG (h Q q) fun d ⟨a, z, p⟩ => ⟨ρ2 a, js, by rw [z]; exact hg a, k a p⟩
theorem st_retW {w : (α → Prop) → Prop} {Q : α → Prop} (h : EvW K W te ρ e w) (q : w Q) (k : ∀ a, Q a → O.rt (e a)) : StG K W EX (tSeq (tRet te) tr) ρ O :=
  st_retSeq ((h Q q).imp fun d ⟨a, z, p⟩ => by
    rw [z]
    exact k a p)
theorem st_dropW {w : (α → Prop) → Prop} {Q : α → Prop} (h : EvW K W te ρ e w) (q : w Q) (k : ∀ a, Q a → StG K W EX tr ρ O) : StG K W EX (tSeq (tDrop te) tr) ρ O := fun D0 H0 D H σ Dn en kn kb kc kr kx =>
  h Q q D0 H0 D H σ en _ fun v D' H' d s _ p => p.elim fun a z => k a z.2 D0 H0 D' H' _ Dn (en.step s) (fun a b c x g2 => kn a b c x (s.gro.trans g2)) (fun a b c x g2 => kb a b c x (s.gro.trans g2)) (fun a b c x g2 => kc a b c x (s.gro.trans g2)) kr kx
def appW {α : Type} (xs : List α) (a : α) (Q : List α → Prop) : Prop := xs.length < sizeLine ∧ Q (xs ++ [a])
theorem st_appendP {P : PyData → Prop} {ds : List PyData} (hρ : ρ[i]? = some (.own ds)) {r : V → List V → Hp → VK → Prop}
    (hr : ∀ l x xs H Q, H l = some (.lst xs) → xs.length < sizeLine → Q V.non (upd H l (.lst (xs ++ [x]))) → r (.ref l) [x] H Q)
    (h : EvN K W te ρ P) (hz : ∀ d, P d → ds.length < sizeLine) (k : ∀ d, P d → StG K W EX tr (ρ.set i (.own (ds ++ [d]))) O) : StG K W EX (tSeq (tDrop (tBM K "list" r (tVar i) (tCons te tNil))) tr) ρ O := fun D0 H0 D H σ Dn e kn kb kc kr kx => by
  obtain ⟨o, q1, l, xs, q2, q3, q4, q5, q6, q7⟩ := e.slot i _ hρ
  subst q2
  refine ⟨.ref l, q1, Or.inl ⟨rfl, _, Or.inl (Or.inl q6)⟩, ?_⟩
  refine h D0 H0 D H σ e _ fun v D' H' d s q p => ?_
  have e1 := e.step s
  obtain ⟨o', r1, l', xs', r2, r3, r4, r5, r6, r7⟩ := e1.slot i _ hρ
  rw [q1] at r1
  cases r1
  cases r2
  refine hr l v xs' H' _ r6 (by rw [r7.len]; exact hz d p) ?_
  exact k d p D0 H0 D' _ σ Dn (e1.write hρ q1 (r7.app (.cons q .nil))) (fun a b c x g2 => kn a b c x (s.gro.trans g2)) (fun a b c x g2 => kb a b c x (s.gro.trans g2)) (fun a b c x g2 => kc a b c x (s.gro.trans g2)) kr kx
theorem st_appW {xs : List α} {r : V → List V → Hp → VK → Prop} {w : (α → Prop) → Prop} {Q : List α → Prop} (hρ : ρ[i]? = some (.own (xs.map e)))
    (hr : ∀ l x xs H Q, H l = some (.lst xs) → xs.length < sizeLine → Q V.non (upd H l (.lst (xs ++ [x]))) → r (.ref l) [x] H Q)
    (h : EvW K W te ρ e w) (q : w fun a => appW xs a Q) (k : ∀ ys, Q ys → StG K W EX tr (ρ.set i (.own (ys.map e))) O) : StG K W EX (tSeq (tDrop (tBM K "list" r (tVar i) (tCons te tNil))) tr) ρ O :=
  st_appendP hρ hr (h _ q) (fun d ⟨a, _, p⟩ => by rw [List.length_map]; exact p.1) fun d ⟨a, z, p⟩ => by
    have := k _ p.2
    rw [List.map_append] at this
    rw [z]
    exact this
/-! branches -/
theorem st_ifW {w : (Bool → Prop) → Prop} {p1 p2 : Prop} (h : EvTW K W tt ρ w) (q : w fun b => ifW b p1 p2) (h1 : p1 → StG K W EX (tSeq t1 tr) ρ O) (h2 : p2 → StG K W EX (tSeq t2 tr) ρ O) : StG K W EX (tSeq (tIfS tt t1 t2) tr) ρ O :=
  st_if (h _ q) (fun p => h1 p) fun p => h2 p
theorem st_joinW {f : (σ → Prop) → Prop} {k : σ → Prop} (L : σ → List Sk) (q : joinW f k) (h1 : ∀ k, f k → StG K W EX (tSeq t1 tNext) ρ { O with nx := fun ρ' => ∃ s, Le ρ' (L s) ∧ k s }) (h2 : ∀ s, k s → StG K W EX tr (L s) O) : StG K W EX (tSeq t1 tr) ρ O :=
  st_seq (h1 k q) fun ρ' ⟨s, l, p⟩ => (h2 s p).weak l
theorem st_contSeq (h : O.ct ρ) : StG K W EX (tSeq tCont tr) ρ O := fun D0 H0 D H σ Dn e _ _ kc _ _ => kc σ D H ρ (Same.refl D) e h
theorem st_brkSeq (h : O.bk ρ) : StG K W EX (tSeq tBreak tr) ρ O := fun D0 H0 D H σ Dn e _ kb _ _ _ => kb σ D H ρ (Same.refl D) e h
/-! loops -/
theorem st_forW {wi : TI} {g : TG} {w : (List α → Prop) → Prop} {body : α → σ → (σ → Prop) → (σ → Prop) → Prop} {s0 : σ} {k : σ → Prop} (L : σ → List Sk) {Lx : σ → α → List Sk} {js : List Nat}
    (hI : EvIW K W wi ρ e w) (q : w fun xs => loopW body xs s0 k) (h0 : Le ρ (L s0)) (hg : ∀ s x, EvG K W g (L s) (e x) (Lx s x) js)
    (hb : ∀ x s kn kb, body x s kn kb → StG K W EX tb (Lx s x) { O with nx := fun ρ' => ∃ s', Le ρ' (L s') ∧ kn s', ct := fun ρ' => ∃ s', Le ρ' (L s') ∧ kn s', bk := fun ρ' => ∃ s', Le ρ' (L s') ∧ kb s' })
    (h2 : ∀ s, k s → StG K W EX tr (L s) O) : StG K W EX (tSeq (tFor wi g tb) tr) ρ O := by
  refine st_for (hI _ q) (fun ds i ρ' => ∃ xs : List α, ds = xs.map e ∧ ∃ s, Le ρ' (L s) ∧ loopW body (xs.drop i) s k) (fun ρ' => ∃ s, Le ρ' (L s) ∧ k s) ?_ ?_ ?_ ?_
  · rintro ds ⟨xs, z, p⟩
    exact ⟨xs, z, s0, h0, p⟩
  · rintro ds i d ρ1 _ hd ⟨xs, rfl, s, l, p⟩
    rw [List.getElem?_map] at hd
    cases hx : xs[i]? with
    | none =>
      rw [hx] at hd
      cases hd
    | some x =>
      rw [hx] at hd
      cases hd
      have hi : i < xs.length := (List.getElem?_eq_some_iff.mp hx).1
      have ed : xs.drop i = x :: xs.drop (i + 1) := by
        rw [List.drop_eq_getElem_cons hi]
        congr 1
        exact (List.getElem?_eq_some_iff.mp hx).2
      rw [ed] at p
      refine ⟨Lx s x, js, (hg s x).weak l, ?_⟩
      have := hb x s _ _ p
      intro D0 H0 D H σ Dn e kn kb kc kr kx
      exact this D0 H0 D H σ Dn e (fun a b c y gg ee ⟨s', l', p'⟩ => kn a b c y gg ee ⟨xs, rfl, s', l', p'⟩) (fun a b c y gg ee ⟨s', l', p'⟩ => kb a b c y gg ee ⟨s', l', p'⟩) (fun a b c y gg ee ⟨s', l', p'⟩ => kc a b c y gg ee ⟨xs, rfl, s', l', p'⟩) kr kx
  · rintro ds ρ' _ ⟨xs, rfl, s, l, p⟩
    rw [List.length_map, List.drop_length] at p
    exact ⟨s, l, p⟩
  · rintro ρ' ⟨s, l, p⟩
    exact (h2 s p).weak l
theorem st_whileW {test : σ → (Bool → Prop) → Prop} {body : σ → (σ → Prop) → (σ → Prop) → Prop} {s0 : σ} {k : σ → Prop} (L : σ → List Sk)
    (q : whileW test body s0 k) (h0 : Le ρ (L s0)) (ht : ∀ s, EvTW K W tt (L s) (test s))
    (hb : ∀ s kn kb, body s kn kb → StG K W EX tb (L s) { O with nx := fun ρ' => ∃ s', Le ρ' (L s') ∧ kn s', ct := fun ρ' => ∃ s', Le ρ' (L s') ∧ kn s', bk := fun ρ' => ∃ s', Le ρ' (L s') ∧ kb s' })
    (h2 : ∀ s, k s → StG K W EX tr (L s) O) : StG K W EX (tSeq (tWhile tt tb) tr) ρ O := by
  refine st_seq (N := fun ρ' => ∃ s, Le ρ' (L s) ∧ k s) (fun D0 H0 D H σ Dn e kn kb kc kr kx => ?_) fun ρ' ⟨s, l, p⟩ => (h2 s p).weak l
  obtain ⟨n, hn⟩ := q
  refine ⟨fun m σ2 H2 => ∃ D2 ρ2 s, Same D D2 ∧ Env K W D0 H0 D2 H2 σ2 ρ2 ∧ Le ρ2 (L s) ∧ whileN test body m s k, ⟨n, D, ρ, s0, Same.refl _, e, h0, hn⟩, ?_⟩
  rintro m σ2 H2 ⟨D2, ρ2, s, g2, e2, l2, p2⟩
  cases m with
  | zero => exact p2.elim
  | succ m =>
    have e3 := e2.weak l2
    refine (ht s _ p2) D0 H0 D2 H2 σ2 e3 _ fun b D3 H3 s3 pb => ?_
    have e4 := e3.step s3
    have g3 : Same D D3 := g2.trans s3.gro
    cases b with
    | true =>
      refine ⟨fun σ' H' => ∃ m', m' < m + 1 ∧ ∃ D' ρ' s', Same D D' ∧ Env K W D0 H0 D' H' σ' ρ' ∧ Le ρ' (L s') ∧ whileN test body m' s' k, fun σ' H' h => h, ?_⟩
      exact hb s _ _ pb D0 H0 D3 H3 σ2 _ e4 (fun σ' D' H' ρ' gr e' ⟨s', l', p'⟩ => ⟨m, Nat.lt_succ_self m, D', ρ', s', g3.trans gr, e', l', p'⟩) (fun σ' D' H' ρ' gr e' ⟨s', l', p'⟩ => kn σ' D' H' ρ' (g3.trans gr) e' ⟨s', l', p'⟩)
        (fun σ' D' H' ρ' gr e' ⟨s', l', p'⟩ => ⟨m, Nat.lt_succ_self m, D', ρ', s', g3.trans gr, e', l', p'⟩) kr kx
    | false => exact kn σ2 D3 H3 (L s) g3 e4 ⟨s, Le.refl _, pb⟩
/-! comprehensions -/
theorem evfw_fm {wi : TI} {g : TG} {vs : List Nat} {js : List Nat} {eb : β → PyData} {w : (List α → Prop) → Prop} {f : α → (Option β → Prop) → Prop} {Lx : α → List Sk} (hv : ∀ v ∈ vs, v < ρ.length) (hI : EvIW K W wi ρ e w) (hj : ∀ j ∈ js, j ∈ vs)
    (hg : ∀ x, EvG K W g (wipeR ρ vs) (e x) (Lx x) js)
    (hb : ∀ x k, f x k → ∃ PT : Bool → Prop, EvT K W tt (Lx x) PT ∧ (PT true → EvN K W te (Lx x) (fun d => ∃ y, d = eb y ∧ k (some y))) ∧ (PT false → k none)) :
    EvFW K W (tLc wi g tt te vs) ρ eb (fun Q => w fun xs => fmW xs f Q) := fun Q q => by
  refine (evf_lcS hv (hI _ q) (fun ds i acc => ∃ xs : List α, ds = xs.map e ∧ ∃ ys : List β, acc = ys.map eb ∧ fmGo f (xs.drop i) fun zs => Q (ys ++ zs)) ?_ ?_ ?_).imp ?_
  · rintro ds ⟨xs, z, p⟩
    exact ⟨xs, z, [], rfl, p.2⟩
  · rintro ds ⟨xs, z, p⟩
    rw [z, List.length_map]
    exact p.1
  · rintro ds i d acc _ hd ⟨xs, rfl, ys, rfl, p⟩
    rw [List.getElem?_map] at hd
    cases hx : xs[i]? with
    | none =>
      rw [hx] at hd
      cases hd
    | some x =>
      rw [hx] at hd
      cases hd
      have hi : i < xs.length := (List.getElem?_eq_some_iff.mp hx).1
      have ed : xs.drop i = x :: xs.drop (i + 1) := by
        rw [List.drop_eq_getElem_cons hi]
        congr 1
        exact (List.getElem?_eq_some_iff.mp hx).2
      rw [ed] at p
      obtain ⟨PT, h1, h2, h3⟩ := hb x _ p
      refine ⟨Lx x, js, PT, _, hj, hg x, h1, fun pt => ⟨h2 pt, fun y ⟨b, z, pb⟩ => ⟨xs, rfl, ys ++ [b], ?_, ?_⟩⟩, fun pf => ⟨xs, rfl, ys, rfl, h3 pf⟩⟩
      · rw [z, List.map_append]
        rfl
      · refine (?_ : fmGo f (xs.drop (i + 1)) fun zs => Q ((ys ++ [b]) ++ zs))
        have e1 : (fun zs => Q ((ys ++ [b]) ++ zs)) = fun zs => Q (ys ++ b :: zs) := by
          funext zs
          rw [List.append_assoc]
          rfl
        rw [e1]
        exact pb
  · rintro es ⟨ds, _, xs, rfl, ys, rfl, p⟩
    rw [List.length_map, List.drop_length] at p
    refine ⟨ys, rfl, ?_⟩
    have : Q (ys ++ []) := p
    rw [List.append_nil] at this
    exact this
end
end Dl

/-! ## Defs -/
namespace Dl
open PySem PySem.Spec L2 PyProof.Rows
/-- a def over typed data -/
def spE {α β : Type} (K : PySem.W.Frag) (n : Nat) (ea : α → List PyData) (er : β → PyData) (w : α → (β → Prop) → Prop) : Sp := fun vs H Qv _ =>
  ∃ D a Q, Ok Fx.non D H ∧ DqA K D vs (ea a) ∧ (ea a).length = n ∧ w a Q ∧ ∀ v D' H' b, Step Fx.non D H D' H' → Dq K D' v (er b) → Q b → Qv v H'
/-- .. that draws: from an object of the kind WF, its first argument -/
def spEW {α β ι : Type} (K : PySem.W.Frag) (WF : ι → Fx) (n : Nat) (ea : α → List PyData) (er : β → PyData) (w : α → (β → Prop) → Prop) : Sp := fun vs H Qv _ =>
  ∃ c vs' D x Q, vs = (WF c).root :: vs' ∧ Ok (WF c) D H ∧ DqA K D vs' (ea x) ∧ (ea x).length = n ∧ w x Q ∧ ∀ v D' H' y, Step (WF c) D H D' H' → Dq K D' v (er y) → Q y → Qv v H'
abbrev WlP : Addr × Addr → Fx := fun p => Wl p.1 p.2
theorem env_startF {K : PySem.W.Frag} {W : Fx} {D H : Hp} {N : List Str} {vs : List V} {ds : List PyData} (o : Ok W D H) (q : DqA K D vs ds) (hN : ds.length + 1 ≤ N.length) : Env K W D H D H (start N (W.root :: vs)) (insW N ds) where
  ok0 := o
  st := .refl o
  slot := fun i k h => by
    unfold insW at h
    cases i with
    | zero =>
      cases h
      exact ⟨some W.root, by rw [start_at N _ (by simp)]; rfl, rfl⟩
    | succ i =>
      rw [List.getElem?_cons_succ] at h
      by_cases hi : i < ds.length
      · rw [List.getElem?_append_left (by simpa using hi), List.getElem?_map, List.getElem?_eq_getElem hi] at h
        cases h
        obtain ⟨v, h1, h2⟩ := q.at (List.getElem?_eq_getElem hi)
        refine ⟨some v, ?_, v, rfl, h2⟩
        rw [start_at N _ (by rw [List.length_cons, q.len]; omega), List.getElem?_cons_succ, h1]
      · rw [List.getElem?_append_right (by simpa using hi), List.getElem?_replicate] at h
        split at h
        · rename_i hlt
          cases h
          obtain ⟨w, hw⟩ := start_lt N (W.root :: vs) (i := i + 1) (by rw [List.length_map] at hlt; omega)
          exact ⟨w, hw, trivial⟩
        · cases h
  dist := fun i j l s t es fs h => by
    unfold insW at h
    cases i with
    | zero => cases h
    | succ i =>
      rw [List.getElem?_cons_succ] at h
      by_cases hi : i < ds.length
      · rw [List.getElem?_append_left (by simpa using hi), List.getElem?_map, List.getElem?_eq_getElem hi] at h
        cases h
      · rw [List.getElem?_append_right (by simpa using hi), List.getElem?_replicate] at h
        split at h <;> cases h
section
variable {K : PySem.W.Frag} {W : Fx} {ρ : List Sk} {α β : Type} {n : Nat} {ea : α → List PyData} {er : β → PyData} {w : α → (β → Prop) → Prop} {v : (α → Prop) → Prop} {ta : TA} {E : XK}
theorem evw_call (h : EvAW K W ta ρ ea v) (hl : ∀ a, (ea a).length = n) : EvW K W (tCall (spE K n ea er w) [] E ta) ρ er (fun Q => v fun a => w a Q) := fun Q q D0 H0 D H σ e R r =>
  (h _ q) D0 H0 D H σ e _ fun vs D1 H1 ds s1 q1 ⟨a, z, p⟩ => by
    have o1 := s1.ok e.ok
    rw [List.append_nil]
    rw [z] at q1
    refine ⟨D1, a, Q, o1.non, q1, hl a, p, fun v D' H' b s2 q2 p2 => ?_⟩
    exact r v D' H' _ (s1.trans e.ok (.lift o1 s2)) q2 ⟨b, rfl, p2⟩
theorem evw_callKw {g : {α : Type} → List α → List α} {Ek : L2.St → XK} {m : Nat} {ek : α → List PyData} (h : EvAW K W ta ρ ek v) (hg : ∀ {D : Hp} (vs : List V) a, DqA K D vs (ek a) → DqA K D (g vs) (ea a)) (hm : ∀ a, (ek a).length = m) (hl : ∀ a, (ea a).length = n) :
    EvW K W (tKw m g (spE K n ea er w) Ek ta) ρ er (fun Q => v fun a => w a Q) := fun Q q D0 H0 D H σ e R r =>
  (h _ q) D0 H0 D H σ e _ fun vs D1 H1 ds s1 q1 ⟨a, z, p⟩ => by
    have o1 := s1.ok e.ok
    rw [z] at q1
    refine ⟨by rw [q1.len]; exact hm a, D1, a, Q, o1.non, hg vs a q1, hl a, p, fun v D' H' b s2 q2 p2 => ?_⟩
    exact r v D' H' _ (s1.trans e.ok (.lift o1 s2)) q2 ⟨b, rfl, p2⟩
theorem evw_callD {a : α} (h : EvA K W ta ρ (· = ea a)) (hl : ∀ a, (ea a).length = n) : EvW K W (tCall (spE K n ea er w) [] E ta) ρ er (fun Q => w a Q) := fun Q q =>
  evw_call (v := fun Q => lt a Q) (fun Q q => h.imp fun d z => ⟨a, z, q⟩) hl Q q
theorem evw_callW {ι : Type} {WF : ι → Fx} {c : ι} {i : Nat} (hi : ρ[i]? = some .rt) (h : EvAW K (WF c) ta ρ ea v) (hl : ∀ a, (ea a).length = n) : EvW K (WF c) (tCall (spEW K WF n ea er w) [] E (tCons (tVar i) ta)) ρ er (fun Q => v fun a => w a Q) := fun Q q D0 H0 D H σ e R r => by
  obtain ⟨o, h1, h2⟩ := e.slot i _ hi
  have h3 : o = some (WF c).root := h2
  subst h3
  refine ⟨(WF c).root, h1, ?_⟩
  refine (h _ q) D0 H0 D H σ e _ fun vs D1 H1 ds s1 q1 ⟨x, z, p⟩ => ?_
  show spEW K WF n ea er w (((WF c).root :: vs) ++ []) H1 R E
  rw [List.append_nil]
  rw [z] at q1
  refine ⟨c, vs, D1, x, Q, rfl, s1.ok e.ok, q1, hl x, p, fun v D' H' y s2 q2 p2 => ?_⟩
  exact r v D' H' _ (s1.trans e.ok s2) q2 ⟨y, rfl, p2⟩
theorem evw_callWD {ι : Type} {WF : ι → Fx} {c : ι} {i : Nat} {a : α} (hi : ρ[i]? = some .rt) (h : EvA K (WF c) ta ρ (· = ea a)) (hl : ∀ a, (ea a).length = n) : EvW K (WF c) (tCall (spEW K WF n ea er w) [] E (tCons (tVar i) ta)) ρ er (fun Q => w a Q) := fun Q q =>
  evw_callW (v := fun Q => lt a Q) hi (fun Q q => h.imp fun d z => ⟨a, z, q⟩) hl Q q
end
section
variable {P : Program} {w : World} {K : PySem.W.Frag} {mg : Str → Option Value} {base : Heap} {x qual : Str} {st : Stmt} {f : Addr} {fd : FuncData} {N ps : List Str} {k : Nat} {α β : Type} {ea : α → List PyData} {er : β → PyData} {wf : α → (β → Prop) → Prop}
theorem ok_E (F : Fun K x qual st f fd) (S : FnScope N ps (defScope st)) (hb : ∀ (cdv : Value) (A : Around) (outer : List PySem.Env) (s : Shared) (H : Hp) (E : XK),
      Room k (A.deeper (envOfC qual (defScope st) s.heap.objs.size f cdv)) →
      ∃ t, PSs (cxOf CX0 P w K mg base N qual (defScope st) f cdv A outer s H E).nox (defBody st) t ∧ ∀ a Q, wf a Q → StG K Fx.non (fun _ => False) t (ins N (ea a)) { nx := fun _ => ∃ b, er b = .none ∧ Q b, rt := fun d => ∃ b, d = er b ∧ Q b }) :
    FnOk P w K mg base CX0 (k + 1) f fd ps (spE K ps.length ea er wf) := by
  refine F.ok S (fun vs H Q E h => ?_) (fun cdv A outer s H vs Q E hr h => ?_)
  · obtain ⟨D, a, _, _, q, hl, _⟩ := h
    rw [q.len]
    exact hl
  · obtain ⟨D, a, Qb, o, q, hl, p, k⟩ := h
    obtain ⟨t, ht, hg⟩ := hb cdv A outer s H E hr
    refine ⟨t, ht, StG.run (W := Fx.non) (EX := fun _ => False) (xr := False) (Pt := fun d => ∃ b, d = er b ∧ Qb b) (ρ := ins N (ea a)) ?_ (env_start o q ?_) (fun v D' H' d s q hz => hz.elim fun b z => k v D' H' b s (by rw [← z.1]; exact q) z.2) fun _ _ _ z => z⟩
    · have := hg a Qb p
      intro D0 H0 D H σ Dn e kn kb kc kr kx
      exact this D0 H0 D H σ Dn e (fun a b c y gg ee ⟨z, e1, e2⟩ => kn a b c y gg ee ⟨z, e1.symm, e2⟩) kb kc kr kx
    · have hp : ps.length ≤ N.length := by
        have := congrArg List.length S.pre
        rw [List.length_take] at this
        omega
      omega
/-- .. whose repr is known where no guard stands -/
theorem ok_EG (F : Fun K x qual st f fd) (S : FnScope N ps (defScope st)) (hb : ∀ (cdv : Value) (A : Around) (outer : List PySem.Env) (s : Shared) (H : Hp) (E : XK), A.guards = some [] →
      Room k (A.deeper (envOfC qual (defScope st) s.heap.objs.size f cdv)) →
      ∃ t, PSs (cxOf CX0 P w K mg base N qual (defScope st) f cdv A outer s H E).nox (defBody st) t ∧ ∀ a Q, wf a Q → StG K Fx.non (fun _ => False) t (ins N (ea a)) { nx := fun _ => ∃ b, er b = .none ∧ Q b, rt := fun d => ∃ b, d = er b ∧ Q b }) :
    FnG P w K mg base CX0 (k + 1) f fd ps (spE K ps.length ea er wf) := by
  refine fun_okG0 F S (fun vs H Q E h => ?_) (fun cdv A outer s H vs Q E hgd hr h => ?_)
  · obtain ⟨D, a, _, _, q, hl, _⟩ := h
    rw [q.len]
    exact hl
  · obtain ⟨D, a, Qb, o, q, hl, p, k⟩ := h
    obtain ⟨t, ht, hg⟩ := hb cdv A outer s H E hgd hr
    refine ⟨t, ht, StG.run (W := Fx.non) (EX := fun _ => False) (xr := False) (Pt := fun d => ∃ b, d = er b ∧ Qb b) (ρ := ins N (ea a)) ?_ (env_start o q ?_) (fun v D' H' d s q hz => hz.elim fun b z => k v D' H' b s (by rw [← z.1]; exact q) z.2) fun _ _ _ z => z⟩
    · have := hg a Qb p
      intro D0 H0 D H σ Dn e kn kb kc kr kx
      exact this D0 H0 D H σ Dn e (fun a b c y gg ee ⟨z, e1, e2⟩ => kn a b c y gg ee ⟨z, e1.symm, e2⟩) kb kc kr kx
    · have hp : ps.length ≤ N.length := by
        have := congrArg List.length S.pre
        rw [List.length_take] at this
        omega
      omega
theorem ok_EW {ι : Type} {WF : ι → Fx} {p0 : Str} (F : Fun K x qual st f fd) (S : FnScope N (p0 :: ps) (defScope st)) (hb : ∀ (c : ι) (cdv : Value) (A : Around) (outer : List PySem.Env) (s : Shared) (H : Hp) (E : XK),
      Room k (A.deeper (envOfC qual (defScope st) s.heap.objs.size f cdv)) →
      ∃ t, PSs (cxOf CX0 P w K mg base N qual (defScope st) f cdv A outer s H E).nox (defBody st) t ∧ ∀ x Q, wf x Q → StG K (WF c) (fun _ => False) t (insW N (ea x)) { nx := fun _ => ∃ b, er b = .none ∧ Q b, rt := fun d => ∃ b, d = er b ∧ Q b }) :
    FnOk P w K mg base CX0 (k + 1) f fd (p0 :: ps) (spEW K WF ps.length ea er wf) := by
  refine F.ok S (fun vs H Q E h => ?_) (fun cdv A outer s H vs Q E hr h => ?_)
  · obtain ⟨c, vs', D, x, _, e, _, q, hl, _⟩ := h
    rw [e, List.length_cons, q.len, hl]
    rfl
  · obtain ⟨c, vs', D, x, Qb, e, o, q, hl, p, k⟩ := h
    subst e
    obtain ⟨t, ht, hg⟩ := hb c cdv A outer s H E hr
    refine ⟨t, ht, StG.run (W := WF c) (EX := fun _ => False) (xr := False) (Pt := fun d => ∃ b, d = er b ∧ Qb b) (ρ := insW N (ea x)) ?_ (env_startF o q ?_) (fun v D' H' d s q hz => hz.elim fun b z => k v D' H' b s (by rw [← z.1]; exact q) z.2) fun _ _ _ z => z⟩
    · have := hg x Qb p
      intro D0 H0 D H σ Dn e kn kb kc kr kx
      exact this D0 H0 D H σ Dn e (fun a b c y gg ee ⟨z, e1, e2⟩ => kn a b c y gg ee ⟨z, e1.symm, e2⟩) kb kc kr kx
    · have hp : (p0 :: ps).length ≤ N.length := by
        have := congrArg List.length S.pre
        rw [List.length_take] at this
        omega
      rw [List.length_cons] at hp
      omega
theorem ok_EWG {ι : Type} {WF : ι → Fx} {p0 : Str} (F : Fun K x qual st f fd) (S : FnScope N (p0 :: ps) (defScope st)) (hb : ∀ (c : ι) (cdv : Value) (A : Around) (outer : List PySem.Env) (s : Shared) (H : Hp) (E : XK), A.guards = some [] →
      Room k (A.deeper (envOfC qual (defScope st) s.heap.objs.size f cdv)) →
      ∃ t, PSs (cxOf CX0 P w K mg base N qual (defScope st) f cdv A outer s H E).nox (defBody st) t ∧ ∀ x Q, wf x Q → StG K (WF c) (fun _ => False) t (insW N (ea x)) { nx := fun _ => ∃ b, er b = .none ∧ Q b, rt := fun d => ∃ b, d = er b ∧ Q b }) :
    FnG P w K mg base CX0 (k + 1) f fd (p0 :: ps) (spEW K WF ps.length ea er wf) := by
  refine fun_okG0 F S (fun vs H Q E h => ?_) (fun cdv A outer s H vs Q E hgd hr h => ?_)
  · obtain ⟨c, vs', D, x, _, e, _, q, hl, _⟩ := h
    rw [e, List.length_cons, q.len, hl]
    rfl
  · obtain ⟨c, vs', D, x, Qb, e, o, q, hl, p, k⟩ := h
    subst e
    obtain ⟨t, ht, hg⟩ := hb c cdv A outer s H E hgd hr
    refine ⟨t, ht, StG.run (W := WF c) (EX := fun _ => False) (xr := False) (Pt := fun d => ∃ b, d = er b ∧ Qb b) (ρ := insW N (ea x)) ?_ (env_startF o q ?_) (fun v D' H' d s q hz => hz.elim fun b z => k v D' H' b s (by rw [← z.1]; exact q) z.2) fun _ _ _ z => z⟩
    · have := hg x Qb p
      intro D0 H0 D H σ Dn e kn kb kc kr kx
      exact this D0 H0 D H σ Dn e (fun a b c y gg ee ⟨z, e1, e2⟩ => kn a b c y gg ee ⟨z, e1.symm, e2⟩) kb kc kr kx
    · have hp : (p0 :: ps).length ≤ N.length := by
        have := congrArg List.length S.pre
        rw [List.length_take] at this
        omega
      rw [List.length_cons] at hp
      omega
/-- a def told in the old words is told in the new ones -/
theorem FnOk.weak {C : CXT} {sp sp' : Sp} (F : FnOk P w K mg base C k f fd ps sp) (h : ∀ vs H Q E, sp' vs H Q E → sp vs H Q E) : FnOk P w K mg base C k f fd ps sp' :=
  ⟨fun vs H Q E q => F.len vs H Q E (h vs H Q E q), fun A outer s H args us vs Q E r e b v q => F.run A outer s H args us vs Q E r e b v (h vs H Q E q)⟩
theorem spEW_of {n : Nat} {Pre : List PyData → Prop} {Post : List PyData → PyData → Prop} (h : ∀ x Q, wf x Q → Pre (ea x) ∧ ∀ d, Post (ea x) d → ∃ y, d = er y ∧ Q y) : ∀ vs H Q E, spEW K WlP n ea er wf vs H Q E → spW K n Pre Post vs H Q E := fun vs H Q E ⟨c, vs', D, x, Qb, e, o, q, hl, p, k⟩ =>
  ⟨c.1, c.2, vs', D, ea x, e, o, q, hl, (h x Qb p).1, fun v D' H' d s q2 p2 => by
    obtain ⟨y, z, py⟩ := (h x Qb p).2 d p2
    exact k v D' H' y s (by rw [← z]; exact q2) py⟩
theorem spE_of {n : Nat} {Pre : List PyData → Prop} {Post : List PyData → PyData → Prop} (h : ∀ x Q, wf x Q → Pre (ea x) ∧ ∀ d, Post (ea x) d → ∃ y, d = er y ∧ Q y) : ∀ vs H Q E, spE K n ea er wf vs H Q E → spN K n Pre Post vs H Q E := fun vs H Q E ⟨D, x, Qb, o, q, hl, p, k⟩ =>
  ⟨D, ea x, o, q, hl, (h x Qb p).1, fun v D' H' d s q2 p2 => by
    obtain ⟨y, z, py⟩ := (h x Qb p).2 d p2
    exact k v D' H' y s (by rw [← z]; exact q2) py⟩
end
end Dl

/-! ## Sequences -/
namespace Dl
open PySem PySem.Spec L2 PyProof.Rows
section
variable (K : PySem.W.Frag) (W : Fx) {α : Type}
/-- a list to be read, also behind what is evaluated next -/
def EvP (te : TE) (ρ : List Sk) (P : List PyData → Prop) : Prop := ∀ D0 H0 D H σ, Env K W D0 H0 D H σ ρ → ∀ Q : VK,
  (∀ l xs D' H' ds, Step W D H D' H' → (∀ D2 H2, Step W D' H' D2 H2 → SqL K H2 l xs) → DqA K D' xs ds → P ds → Q (.ref l) H') → te σ H Q
def EvLW (te : TE) (ρ : List Sk) (e : α → PyData) (w : (List α → Prop) → Prop) : Prop := ∀ Q, w Q → EvP K W te ρ (fun ds => ∃ xs, ds = xs.map e ∧ Q xs)
end
section
variable {K : PySem.W.Frag} {W : Fx} {ρ : List Sk} {α β γ : Type} {ta tb tc te : TE} {e ea : α → PyData} {eb : β → PyData} {ec : γ → PyData}
theorem EvP.b {P : List PyData → Prop} (h : EvP K W te ρ P) : EvB K W te ρ P := fun D0 H0 D H σ en Q q =>
  h D0 H0 D H σ en Q fun l xs D' H' ds s k d p => q l xs D' H' ds s (k D' H' (.refl (s.ok en.ok))) d p
theorem EvLW.b {w : (List α → Prop) → Prop} (h : EvLW K W te ρ e w) : EvBW K W te ρ e w := fun Q q => (h Q q).b
theorem w_own {i : Nat} {xs : List α} (h : ρ[i]? = some (.own (xs.map e))) : EvLW K W (tVar i) ρ e (fun Q => lt xs Q) := fun Q q D0 H0 D H σ en R r => by
  obtain ⟨o, h1, l, vs, h2, h3, h4, h5, h6, h7⟩ := en.slot i _ h
  subst h2
  exact ⟨_, h1, r l vs D H _ (.refl en.ok) (fun D2 H2 s => Or.inl (Or.inl (s.off l _ h5 h6))) h7 ⟨xs, rfl, q⟩⟩
theorem EvFW.l {w : (List α → Prop) → Prop} (h : EvFW K W te ρ e w) : EvLW K W te ρ e w := fun Q q D0 H0 D H σ en R r =>
  h Q q D0 H0 D H σ en R fun l vs D' H' ds s hn hd hl d p => r l vs D' H' ds s (fun D2 H2 s2 => by
    have hw : ¬ W.adr l := fun hw => W.has H l en.st.inv hw hn
    exact Or.inl (Or.inl (s2.off l _ hw hl))) d p
theorem EvW.l {w : (List α → Prop) → Prop} (h : EvW K W te ρ (eLst e) w) : EvLW K W te ρ e w := fun Q q D0 H0 D H σ en R r =>
  h Q q D0 H0 D H σ en R fun v D' H' d s dq ⟨xs, z, p⟩ => by
    subst z
    cases dq with
    | lst h1 h2 => exact r _ _ D' H' _ s (fun D2 H2 s2 => same_l (s2.gro.trans s2.sub) h1) h2 ⟨xs, rfl, p⟩
/-! indices -/
theorem d_ixT {ti : TE} {d : PyData} {ds : List PyData} {i : Int} (h : EvD K W te ρ (.tuple ds)) (hi : EvD K W ti ρ (.int i)) (z : atI ds i = some d) : EvD K W (tOp (rIxT K) te ti) ρ d := ev_opD h hi (rd_ixT z)
theorem d_ixL {ti : TE} {d : PyData} {ds : List PyData} {i : Int} (h : EvD K W te ρ (.list ds)) (hi : EvD K W ti ρ (.int i)) (z : atI ds i = some d) : EvD K W (tOp (rIxL K) te ti) ρ d := ev_opD h hi (rd_ixL z)
theorem atI_map {f : α → β} {xs : List α} {i : Int} : atI (xs.map f) i = (atI xs i).map f := by
  unfold atI
  rw [List.length_map]
  cases ixN xs.length i with
  | none => rfl
  | some j => simp
theorem w_ixT {ti : TE} {w : (List α → Prop) → Prop} {v : (Int → Prop) → Prop} (h : EvW K W te ρ (eTup e) w) (hi : EvW K W ti ρ eI v) : EvW K W (tOp (rIxT K) te ti) ρ e (fun Q => w fun xs => v fun i => ixW xs i Q) :=
  evw_op h hi fun xs i Q ⟨a, z, q⟩ D H x y o hx hy R r => rd_ixT (by rw [atI_map, z]; rfl) D H x y o hx hy R fun v D' H' d s dq z2 => r v D' H' d s dq ⟨a, z2, q⟩
theorem w_ixL {ti : TE} {w : (List α → Prop) → Prop} {v : (Int → Prop) → Prop} (h : EvLW K W te ρ e w) (hi : EvW K W ti ρ eI v) : EvW K W (tOp (rIxL K) te ti) ρ e (fun Q => w fun xs => v fun i => ixW xs i Q) := fun Q q D0 H0 D H σ en R r =>
  h _ q D0 H0 D H σ en _ fun l vs D1 H1 ds s1 k1 q1 ⟨xs, z, p⟩ => hi _ p D0 H0 D1 H1 σ (en.step s1) _ fun y D2 H2 d2 s2 q2 ⟨i, z2, a, z3, p3⟩ => by
    subst z
    subst z2
    cases q2
    have q1' := q1.up s2.gro
    obtain ⟨j, hj⟩ : ∃ j, ixN xs.length i = some j ∧ xs[j]? = some a := by
      unfold atI at z3
      cases e1 : ixN xs.length i with
      | none =>
        rw [e1] at z3
        cases z3
      | some j =>
        rw [e1] at z3
        exact ⟨j, rfl, z3⟩
    obtain ⟨u, hu, qu⟩ := q1'.at (i := j) (d := e a) (by rw [List.getElem?_map, hj.2]; rfl)
    refine ⟨l, vs, i, u, rfl, rfl, k1 D2 H2 s2, ?_, r u D2 H2 _ (s1.trans en.ok s2) qu ⟨a, rfl, p3⟩⟩
    unfold atI
    rw [q1.len, List.length_map, hj.1]
    exact hu
/-! lengths -/
theorem d_lenT {xs : List α} (h : EvD K W te ρ (eTup e xs)) : EvD K W (tCB (rLenQ K) (tCons te tNil)) ρ (eI (xs.length : Int)) := by
  have := ev_cbD (ea_consD h ea_nil) rc_lenT
  rw [List.length_map] at this
  exact this
theorem w_lenT {w : (List α → Prop) → Prop} (h : EvW K W te ρ (eTup e) w) : EvW K W (tCB (rLenQ K) (tCons te tNil)) ρ eI (fun Q => w fun xs => lt (xs.length : Int) Q) :=
  evw_cb (eaw_one h) (RC.w fun xs => by
    have := @rc_lenT K W (xs.map e)
    rw [List.length_map] at this
    exact this)
theorem w_lenL {w : (List α → Prop) → Prop} (h : EvLW K W te ρ e w) : EvW K W (tCB (rLenQ K) (tCons te tNil)) ρ eI (fun Q => w fun xs => lt (xs.length : Int) Q) := fun Q q =>
  (ev_lenB (h _ q).b).imp fun d ⟨ds, ⟨xs, z, p⟩, z2⟩ => ⟨_, by rw [z2, z, List.length_map], p⟩
theorem d_lenO {i : Nat} {xs : List α} (h : ρ[i]? = some (.own (xs.map e))) : EvD K W (tCB (rLenQ K) (tCons (tVar i) tNil)) ρ (eI (xs.length : Int)) :=
  (ev_lenB (evb_own h)).imp fun d ⟨ds, z, z2⟩ => by rw [z2, z, List.length_map]
theorem d_lenL {xs : List α} (h : EvD K W te ρ (eLst e xs)) : EvD K W (tCB (rLenQ K) (tCons te tNil)) ρ (eI (xs.length : Int)) := by
  have := ev_cbD (ea_consD h ea_nil) rc_lenL
  rw [List.length_map] at this
  exact this
/-! slices -/
def cutG {α : Type} (xs : List α) (lo hi : Option Int) : List α := (xs.drop (HT.sIx xs.length 0 lo)).take (HT.sIx xs.length xs.length hi - HT.sIx xs.length 0 lo)
def EvOW (K : PySem.W.Frag) (W : Fx) (to : TO) (ρ : List Sk) (w : (Option Int → Prop) → Prop) : Prop := ∀ P, w P → ∀ D0 H0 D H σ, Env K W D0 H0 D H σ ρ → ∀ Q : Option Int → Hp → Prop,
  (∀ v D' H', Step W D H D' H' → P v → Q v H') → to σ H Q
theorem w_no : EvOW K W tNoPart ρ (fun Q => lt none Q) := fun P p D0 H0 D H σ en Q q => q none D H (.refl en.ok) p
theorem w_part {w : (Int → Prop) → Prop} (h : EvW K W te ρ eI w) : EvOW K W (tPart te) ρ (fun Q => w fun i => lt (some i) Q) := fun P p D0 H0 D H σ en Q q =>
  h _ p D0 H0 D H σ en _ fun v D1 H1 d s1 q1 ⟨i, z, p1⟩ => by
    subst z
    cases q1
    exact ⟨i, rfl, q (some i) D1 H1 s1 p1⟩
theorem w_slL {tl th : TO} {w : (List α → Prop) → Prop} {wl wh : (Option Int → Prop) → Prop} (h : EvLW K W te ρ e w) (hl : EvOW K W tl ρ wl) (hh : EvOW K W th ρ wh) : EvFW K W (L2.tSl (rSlL K) te tl th) ρ e (fun Q => w fun xs => wl fun lo => wh fun hi => lt (cutG xs lo hi) Q) := fun Q q D0 H0 D H σ en R r =>
  h _ q D0 H0 D H σ en _ fun l vs D1 H1 ds s1 k1 q1 ⟨xs, z, p⟩ => hl _ p D0 H0 D1 H1 σ (en.step s1) _ fun lo D2 H2 s2 p2 => hh _ p2 D0 H0 D2 H2 σ ((en.step s1).step s2) _ fun hi D3 H3 s3 p3 => by
    subst z
    have s12 := s1.trans en.ok s2
    have s13 := s12.trans en.ok s3
    have o3 := s13.ok en.ok
    refine ⟨l, vs, rfl, k1 D3 H3 (s2.trans (s1.ok en.ok) s3), fun p hp => ?_⟩
    have q3 := (q1.up s2.gro).up s3.gro
    refine r p _ D3 _ _ (s13.trans en.ok (.keptH o3 (same_new hp))) (fresh_of en.ok s13 hp) (o3.sub.free hp) upd_same ((q3.drop _).take _) ⟨cutG xs lo hi, ?_, p3⟩
    unfold cutG
    rw [List.map_take, List.map_drop, q1.len, List.length_map]
theorem w_slT {tl th : TO} {w : (List α → Prop) → Prop} {wl wh : (Option Int → Prop) → Prop} (h : EvW K W te ρ (eTup e) w) (hl : EvOW K W tl ρ wl) (hh : EvOW K W th ρ wh) : EvW K W (L2.tSl (rSlA K) te tl th) ρ (eTup e) (fun Q => w fun xs => wl fun lo => wh fun hi => lt (cutG xs lo hi) Q) := fun Q q D0 H0 D H σ en R r =>
  h _ q D0 H0 D H σ en _ fun v D1 H1 ds s1 q1 ⟨xs, z, p⟩ => hl _ p D0 H0 D1 H1 σ (en.step s1) _ fun lo D2 H2 s2 p2 => hh _ p2 D0 H0 D2 H2 σ ((en.step s1).step s2) _ fun hi D3 H3 s3 p3 => by
    subst z
    have s13 := (s1.trans en.ok s2).trans en.ok s3
    have o3 := s13.ok en.ok
    have g := s2.gro.trans s3.gro
    cases q1 with
    | tup h1 h2 =>
      have hlen := h2.len
      refine ⟨_, _, rfl, same_t (g.trans o3.sub) h1, fun hw => ?_, fun _ p hp => ?_⟩
      · have ec : cutG xs lo hi = xs := by
          unfold cutG
          rw [hlen, List.length_map] at hw
          rw [hw.1, hw.2, List.drop_zero, Nat.sub_zero, List.take_length]
        exact r _ D3 H3 (eTup e xs) s13 (.tup (same_t g h1) (h2.up g)) ⟨_, rfl, by rw [ec] at p3; exact p3⟩
      · refine r _ _ _ (eTup e (cutG xs lo hi)) (s13.trans en.ok (Step.made o3 hp)) (.tup (SqT.of upd_same) ?_) ⟨_, rfl, p3⟩
        unfold cutV cutG
        rw [hlen, List.map_take, List.map_drop, List.length_map]
        exact ((h2.up g).up (same_new (o3.sub.free hp))).drop _ |>.take _
/-! made of lists -/
theorem w_tupL {w : (List α → Prop) → Prop} (h : EvLW K W te ρ e w) : EvW K W (tCB (rTupOf K) (tCons te tNil)) ρ (eTup e) w := fun Q q =>
  (ev_tupOfL (h Q q).b).imp fun d ⟨ds, ⟨xs, z, p⟩, z2⟩ => ⟨xs, by rw [z2, z], p⟩
theorem w_tupT {w : (List α → Prop) → Prop} (h : EvW K W te ρ (eTup e) w) : EvW K W (tCB (rTupOf K) (tCons te tNil)) ρ (eTup e) w := fun Q q D0 H0 D H σ en R r =>
  h Q q D0 H0 D H σ en _ fun v D1 H1 d s1 q1 ⟨xs, z, p⟩ => by
    subst z
    cases q1 with
    | tup h1 h2 => exact ⟨_, _, rfl, Or.inr ⟨same_t s1.sub h1, r _ D1 H1 _ s1 (.tup h1 h2) ⟨xs, rfl, p⟩⟩⟩
theorem w_listT {w : (List α → Prop) → Prop} (h : EvW K W te ρ (eTup e) w) : EvFW K W (tCB (rListOf K) (tCons te tNil)) ρ e w := fun Q q =>
  evf_listT ((h Q q).imp fun d ⟨xs, z, p⟩ => ⟨xs.map e, ⟨xs, rfl, p⟩, z⟩)
theorem w_listL {w : (List α → Prop) → Prop} (h : EvLW K W te ρ e w) : EvFW K W (tCB (rListOf K) (tCons te tNil)) ρ e w := fun Q q D0 H0 D H σ en R r =>
  h Q q D0 H0 D H σ en _ fun l xs D1 H1 ds s1 k1 q1 p1 => by
    have o1 := s1.ok en.ok
    exact ⟨l, xs, rfl, Or.inl (k1 D1 H1 (.refl o1)), fun p hp => r p xs D1 _ ds (s1.trans en.ok (.keptH o1 (same_new hp))) (fresh_of en.ok s1 hp) (o1.sub.free hp) upd_same q1 p1⟩
/-! put together -/
theorem w_catL {wa wb : (List α → Prop) → Prop} (ha : EvLW K W ta ρ e wa) (hb : EvLW K W tb ρ e wb) : EvFW K W (tOp (rCatL K) ta tb) ρ e (fun Q => wa fun a => wb fun b => gd (a.length + b.length ≤ sizeLine) (lt (a ++ b) Q)) := fun Q q D0 H0 D H σ en R r =>
  ha _ q D0 H0 D H σ en _ fun l xs D1 H1 ds s1 k1 q1 ⟨a, z, p⟩ => hb _ p D0 H0 D1 H1 σ (en.step s1) _ fun m ys D2 H2 es s2 k2 q2 ⟨b, z2, p2⟩ => by
    subst z
    subst z2
    have s12 := s1.trans en.ok s2
    have o2 := s12.ok en.ok
    refine ⟨l, m, xs, ys, rfl, rfl, k1 D2 H2 s2, k2 D2 H2 (.refl o2), ?_, fun p hp => ?_⟩
    · rw [q1.len, q2.len, List.length_map, List.length_map]
      exact p2.1
    · exact r p _ D2 _ _ (s12.trans en.ok (.keptH o2 (same_new hp))) (fresh_of en.ok s12 hp) (o2.sub.free hp) upd_same ((q1.up s2.gro).app q2) ⟨a ++ b, by rw [List.map_append], p2.2⟩
theorem w_catT {wa wb : (List α → Prop) → Prop} (ha : EvW K W ta ρ (eTup e) wa) (hb : EvW K W tb ρ (eTup e) wb) : EvW K W (tOp (rCatA K) ta tb) ρ (eTup e) (fun Q => wa fun a => wb fun b => gd (a.length + b.length ≤ sizeLine) (lt (a ++ b) Q)) := fun Q q D0 H0 D H σ en R r =>
  ha _ q D0 H0 D H σ en _ fun v D1 H1 d s1 q1 ⟨xs, z, p⟩ => hb _ p D0 H0 D1 H1 σ (en.step s1) _ fun u D2 H2 d2 s2 q2 ⟨ys, z2, p2⟩ => by
    subst z
    subst z2
    have s12 := s1.trans en.ok s2
    have o2 := s12.ok en.ok
    have hz := p2.1
    cases q1 with
    | tup h1 h2 =>
      cases q2 with
      | tup h3 h4 =>
        have h2' := h2.up s2.gro
        have l1 := h2.len
        have l3 := h4.len
        rw [List.length_map] at l1 l3
        refine ⟨_, _, _, _, rfl, rfl, same_t (s2.gro.trans o2.sub) h1, same_t o2.sub h3, by omega, fun z => ?_, fun _ z => ?_, fun _ _ p hp => ?_⟩
        · have : xs = [] := List.length_eq_zero_iff.mp (by rw [← l1, z]; rfl)
          subst this
          exact r _ D2 H2 _ s12 (.tup h3 h4) ⟨[] ++ ys, rfl, p2.2⟩
        · have : ys = [] := List.length_eq_zero_iff.mp (by rw [← l3, z]; rfl)
          subst this
          exact r _ D2 H2 _ s12 (.tup (same_t s2.gro h1) h2') ⟨xs ++ [], by rw [List.append_nil], p2.2⟩
        · exact r _ _ _ _ (s12.trans en.ok (Step.made o2 hp)) (.tup (SqT.of upd_same) ((h2'.app h4).up (same_new (o2.sub.free hp)))) ⟨xs ++ ys, by rw [← List.map_append], p2.2⟩
/-! sorted -/
def srtI (xs : List Int) : List Int := xs.mergeSort fun a b => decide (a ≤ b)
theorem srtI_perm (xs : List Int) : (srtI xs).Perm xs := List.mergeSort_perm _ _
theorem srtI_pw (xs : List Int) : (srtI xs).Pairwise (· ≤ ·) := by
  have := List.pairwise_mergeSort (le := fun a b : Int => decide (a ≤ b)) (fun a b c h1 h2 => by simp at h1 h2 ⊢; omega) (fun a b => by simp; omega) xs
  exact this.imp fun h => by simpa using h
theorem srtI_eq {xs ys : List Int} (h1 : ys.Perm xs) (h2 : ys.Pairwise (· ≤ ·)) : ys = srtI xs := sorted_one (h1.trans (srtI_perm xs).symm) h2 (srtI_pw xs)
theorem w_sortI {w : (List Int → Prop) → Prop} (h : EvLW K W te ρ eI w) : EvFW K W (tCB (rSortedI K) (tCons te tNil)) ρ eI (fun Q => w fun xs => lt (srtI xs) Q) := fun Q q D0 H0 D H σ en R r =>
  evf_sortI (PN := fun ns => lt (srtI ns) Q) (EvB.imp (h _ q).b fun ds ⟨xs, z, p⟩ => ⟨xs, z, p⟩) D0 H0 D H σ en R fun l vs D' H' ds s a b c d ⟨ns, ns', p, h1, h2, z⟩ => r l vs D' H' ds s a b c d ⟨ns', z, by rw [srtI_eq h1 h2]; exact p⟩
theorem w_sortTI {w : (List Int → Prop) → Prop} (h : EvW K W te ρ (eTup eI) w) : EvFW K W (tCB (rSortedTI K) (tCons te tNil)) ρ eI (fun Q => w fun xs => lt (srtI xs) Q) := fun Q q D0 H0 D H σ en R r =>
  evf_sortTI (PN := fun ns => lt (srtI ns) Q) ((h _ q).imp fun d ⟨xs, z, p⟩ => ⟨xs, z, p⟩) D0 H0 D H σ en R fun l vs D' H' ds s a b c d ⟨ns, ns', p, h1, h2, z⟩ => r l vs D' H' ds s a b c d ⟨ns', z, by rw [srtI_eq h1 h2]; exact p⟩
def srtK {α : Type} (f : α → List Key) (xs : List α) : List α := xs.mergeSort fun a b => leM (f a) (f b)
theorem srtK_map {α : Type} (f : α → List Key) (xs : List α) : (srtK f xs).map f = srtM (xs.map f) := by
  unfold srtK srtM
  exact List.map_mergeSort (f := f) (fun _ _ _ _ => rfl)
theorem srtK_perm {α : Type} (f : α → List Key) (xs : List α) : (srtK f xs).Perm xs := List.mergeSort_perm _ _
theorem srtK_pw {α : Type} (f : α → List Key) (xs : List α) : (srtK f xs).Pairwise fun a b => leM (f a) (f b) = true :=
  List.pairwise_mergeSort (fun a b c => leM_trans (f a) (f b) (f c)) (fun a b => leM_total (f a) (f b)) xs
theorem w_sortK {shape : Nat → Bool} {w : (List α → Prop) → Prop} (f : α → List Key) (h : EvLW K W te ρ e w) (he : ∀ a, e a = tupM (f a)) (hs : ∀ a, f a ≠ [] ∧ shOk shape 0 (f a)) : EvFW K W (tCB (rSortM K shape) (tCons te tNil)) ρ e (fun Q => w fun xs => lt (srtK f xs) Q) := fun Q q D0 H0 D H σ en R r =>
  evf_sortM (shape := shape) (PN := fun nss => ∃ xs : List α, nss = xs.map f ∧ lt (srtK f xs) Q) (EvB.imp (h _ q).b fun ds ⟨xs, z, p⟩ => ⟨xs.map f, by
    rw [z, List.map_map]
    exact List.map_congr_left fun a _ => he a, fun ns hn => by
    rw [List.mem_map] at hn
    obtain ⟨a, _, z2⟩ := hn
    rw [← z2]
    exact hs a, xs, rfl, p⟩) D0 H0 D H σ en R fun l vs D' H' ds s a b c d ⟨nss, ⟨xs, z, p⟩, z2⟩ => r l vs D' H' ds s a b c d ⟨srtK f xs, by
      rw [z2, z, ← srtK_map, List.map_map]
      exact (List.map_congr_left fun a _ => he a).symm, p⟩
end
end Dl

/-! ## What is walked; ==, in, repr; numbers -/
namespace Dl
open PySem PySem.Spec L2 PyProof.Rows
def rngG (lo : Int) (n : Nat) : List Int := (List.range n).map fun (i : Nat) => lo + (i : Int)
def rngC (lo c : Int) (n : Nat) : List Int := (List.range n).map fun (i : Nat) => lo + (i : Int) * c
def enG {α : Type} : Nat → List α → List (Int × α)
  | _, [] => []
  | n, x :: xs => (((n : Nat) : Int), x) :: enG (n + 1) xs
theorem enums_map {α : Type} (e : α → PyData) : ∀ (n : Nat) (xs : List α), enums n (xs.map e) = (enG n xs).map (eT2 eI e)
  | _, [] => rfl
  | n, x :: xs => by
    show PyData.tuple [.int ((n : Nat) : Int), e x] :: enums (n + 1) (xs.map e) = _
    rw [enums_map e (n + 1) xs]
    rfl
theorem enG_zip {α : Type} : ∀ (n : Nat) (xs : List α), enG n xs = (xs.zipIdx n).map fun p => ((p.2 : Int), p.1)
  | _, [] => rfl
  | n, x :: xs => by
    rw [List.zipIdx_cons, List.map_cons, ← enG_zip (n + 1) xs]
    rfl
def fwd {α β : Type} : List α → List β → List (α × β) := List.zip
def rngW (lo hi : Int) (Q : List Int → Prop) : Prop := (-(2 ^ 62) ≤ lo ∧ lo < 2 ^ 62 ∧ -(2 ^ 62) ≤ hi ∧ hi < 2 ^ 62) ∧ Q (rngG lo (hi - lo).toNat)
def rngCW (lo hi c : Int) (Q : List Int → Prop) : Prop := ∃ n, RgC lo hi c n ∧ Q (rngC lo c n)
section
variable {K : PySem.W.Frag} {W : Fx} {ρ : List Sk} {α β γ : Type} {ta tb tc te : TE} {e ea : α → PyData} {eb : β → PyData} {ec : γ → PyData}
theorem i_listW {w : (List α → Prop) → Prop} (h : EvW K W te ρ (eLst e) w) : EvIW K W (iList K te) ρ e w := fun Q q => ei_listN ((h Q q).imp fun d ⟨xs, z, p⟩ => ⟨xs.map e, ⟨xs, rfl, p⟩, z⟩)
theorem i_tupW {w : (List α → Prop) → Prop} (h : EvW K W te ρ (eTup e) w) : EvIW K W (iTup K te) ρ e w := fun Q q => ei_tupN ((h Q q).imp fun d ⟨xs, z, p⟩ => ⟨xs.map e, ⟨xs, rfl, p⟩, z⟩)
theorem i_rng1W {w : (Int → Prop) → Prop} (h : EvW K W te ρ eI w) : EvIW K W (iRng1 (tCons te tNil)) ρ eI (fun Q => w fun n => rngW 0 n Q) := fun Q q D0 H0 D H σ en R r =>
  h _ q D0 H0 D H σ en _ fun v D1 H1 d s1 q1 ⟨n, z, p⟩ => by
    subst z
    cases q1
    refine ⟨n, rfl, p.1.2.2.1, p.1.2.2.2, r _ D1 H1 (ups 0 n.toNat) s1 Walks.rng ⟨_, ?_, p.2⟩⟩
    unfold ups rngG
    rw [List.map_map, Int.sub_zero]
    rfl
theorem i_rng2W {w v : (Int → Prop) → Prop} (h : EvW K W ta ρ eI w) (h2 : EvW K W tb ρ eI v) : EvIW K W (iRng2 (tCons ta (tCons tb tNil))) ρ eI (fun Q => w fun m => v fun n => rngW m n Q) := fun Q q D0 H0 D H σ en R r =>
  h _ q D0 H0 D H σ en _ fun u D1 H1 d s1 q1 ⟨m, z, p⟩ => h2 _ p D0 H0 D1 H1 σ (en.step s1) _ fun u2 D2 H2 d2 s2 q2 ⟨n, z2, p2⟩ => by
    subst z
    subst z2
    cases q1
    cases q2
    refine ⟨m, n, rfl, p2.1, r _ D2 H2 (ups m (n - m).toNat) (s1.trans en.ok s2) Walks.rng ⟨_, ?_, p2.2⟩⟩
    unfold ups rngG
    rw [List.map_map]
    rfl
theorem i_rng3W {w v x : (Int → Prop) → Prop} (h : EvW K W ta ρ eI w) (h2 : EvW K W tb ρ eI v) (h3 : EvW K W tc ρ eI x) : EvIW K W (iRng3 (tCons ta (tCons tb (tCons tc tNil)))) ρ eI (fun Q => w fun m => v fun n => x fun c => rngCW m n c Q) := fun Q q D0 H0 D H σ en R r =>
  h _ q D0 H0 D H σ en _ fun u D1 H1 d s1 q1 ⟨m, z, p⟩ => h2 _ p D0 H0 D1 H1 σ (en.step s1) _ fun u2 D2 H2 d2 s2 q2 ⟨n, z2, p2⟩ => h3 _ p2 D0 H0 D2 H2 σ ((en.step s1).step s2) _ fun u3 D3 H3 d3 s3 q3 ⟨c, z3, k, p3, p4⟩ => by
    subst z
    subst z2
    subst z3
    cases q1
    cases q2
    cases q3
    refine ⟨m, n, c, k, rfl, p3, r _ D3 H3 _ ((s1.trans en.ok s2).trans en.ok s3) Walks.rngC ⟨_, ?_, p4⟩⟩
    unfold rngC
    rw [List.map_map]
    rfl
theorem i_enumL {w : (List α → Prop) → Prop} (h : EvW K W te ρ (eLst e) w) : EvIW K W (iEnum K (tCons te tNil)) ρ (eT2 eI e) (fun Q => w fun xs => lt (enG 0 xs) Q) := fun Q q D0 H0 D H σ en R r =>
  h _ q D0 H0 D H σ en _ fun v D1 H1 d s1 q1 ⟨xs, z, p⟩ => by
    subst z
    cases q1 with
    | lst h1 h2 => exact ⟨_, _, rfl, same_l s1.sub h1, r _ D1 H1 _ s1 (Walks.enum h1 h2) ⟨_, enums_map e 0 xs, p⟩⟩
theorem i_enumT {w : (List α → Prop) → Prop} (h : EvW K W te ρ (eTup e) w) : EvIW K W (iEnumT K (tCons te tNil)) ρ (eT2 eI e) (fun Q => w fun xs => lt (enG 0 xs) Q) := fun Q q D0 H0 D H σ en R r =>
  h _ q D0 H0 D H σ en _ fun v D1 H1 d s1 q1 ⟨xs, z, p⟩ => by
    subst z
    cases q1 with
    | tup h1 h2 => exact ⟨_, _, rfl, same_t s1.sub h1, r _ D1 H1 _ s1 (Walks.enumT h1 h2) ⟨_, enums_map e 0 xs, p⟩⟩
theorem zips_map (xs : List α) (ys : List β) : zips (xs.map ea) (ys.map eb) = (fwd xs ys).map (eT2 ea eb) := by
  unfold zips fwd
  rw [List.zipWith_map, List.zip, List.map_zipWith]
theorem i_zipT {w : (List α → Prop) → Prop} {v : (List β → Prop) → Prop} (h : EvW K W ta ρ (eTup ea) w) (h2 : EvW K W tb ρ (eTup eb) v) : EvIW K W (RZ.iZipA K (tCons ta (tCons tb tNil))) ρ (eT2 ea eb) (fun Q => w fun xs => v fun ys => lt (fwd xs ys) Q) := fun Q q D0 H0 D H σ en R r =>
  h _ q D0 H0 D H σ en _ fun u D1 H1 d s1 q1 ⟨xs, z, p⟩ => h2 _ p D0 H0 D1 H1 σ (en.step s1) _ fun u2 D2 H2 d2 s2 q2 ⟨ys, z2, p2⟩ => by
    subst z
    subst z2
    have s12 := s1.trans en.ok s2
    cases q1 with
    | tup h1 h2 =>
      cases q2 with
      | tup h3 h4 => exact ⟨_, _, _, _, rfl, Or.inr ⟨same_t (s2.gro.trans s2.sub) h1, same_t s2.sub h3, r _ D2 H2 _ s12 (Walks.zipT (same_t s2.gro h1) (h2.up s2.gro) h3 h4) ⟨_, zips_map xs ys, p2⟩⟩⟩
/-! == -/
structure EqE {α : Type} (e : α → PyData) (n : Nat) : Prop where
  eqv : ∀ a b, PyData.eqv (e a) (e b) = true ↔ a = b
  dep : ∀ a, (e a).depth ≤ n
theorem EqE.int : EqE eI 1 := ⟨fun a b => by simp [PyData.eqv], fun a => by simp [PyData.depth]⟩
theorem EqE.bool : EqE eB 1 := ⟨fun a b => by simp [PyData.eqv], fun a => by simp [PyData.depth]⟩
theorem EqE.str : EqE eS 1 := ⟨fun a b => by simp [PyData.eqv], fun a => by simp [PyData.depth]⟩
theorem EqE.key : EqE eK 1 := ⟨fun a b => by cases a <;> cases b <;> simp [PyData.eqv, kD], fun a => by cases a <;> simp [PyData.depth, kD]⟩
theorem EqE.all {n : Nat} (h : EqE e n) : ∀ xs ys : List α, (PyData.eqvAll (xs.map e) (ys.map e) = true ↔ xs = ys) ∧ PyData.depthAll (xs.map e) ≤ n
  | [], [] => by simp [PyData.eqvAll, PyData.depthAll]
  | [], y :: ys => by simp [PyData.eqvAll, PyData.depthAll]
  | x :: xs, [] => by
    have := h.all xs xs
    have h2 := h.dep x
    simp [PyData.eqvAll, PyData.depthAll, this]
    omega
  | x :: xs, y :: ys => by
    have := h.all xs ys
    have h2 := h.dep x
    have h3 := h.eqv x y
    refine ⟨?_, ?_⟩
    · simp only [List.map_cons, PyData.eqvAll, Bool.and_eq_true, h3, this.1, List.cons.injEq]
    · simp [PyData.depthAll]
      omega
theorem EqE.lst {n : Nat} (h : EqE e n) : EqE (eLst e) (n + 1) := ⟨fun a b => by simpa [PyData.eqv] using (h.all a b).1, fun a => by
  have := (h.all a a).2
  simp only [PyData.depth]
  omega⟩
theorem EqE.tup {n : Nat} (h : EqE e n) : EqE (eTup e) (n + 1) := ⟨fun a b => by simpa [PyData.eqv] using (h.all a b).1, fun a => by
  have := (h.all a a).2
  simp only [PyData.depth]
  omega⟩
theorem EqE.t2 {m n : Nat} (h : EqE ea m) (h2 : EqE eb n) : EqE (eT2 ea eb) (m + n + 1) := ⟨fun a b => by simp [PyData.eqv, PyData.eqvAll, h.eqv, h2.eqv, Prod.ext_iff], fun a => by
  have h3 := h.dep a.1
  have h4 := h2.dep a.2
  simp only [PyData.depth, PyData.depthAll]
  omega⟩
theorem EqE.t3 {m n k : Nat} (h : EqE ea m) (h2 : EqE eb n) (h5 : EqE ec k) : EqE (eT3 ea eb ec) (m + n + k + 1) := ⟨fun a b => by simp [PyData.eqv, PyData.eqvAll, h.eqv, h2.eqv, h5.eqv, Prod.ext_iff], fun a => by
  have h3 := h.dep a.1
  have h4 := h2.dep a.2.1
  have h6 := h5.dep a.2.2
  simp only [PyData.depth, PyData.depthAll]
  omega⟩
/-- texts that can be laid -/
structure CanE {α : Type} (e : α → PyData) (P : α → Prop) : Prop where
  can : ∀ a, P a → (e a).canLay0 = true
theorem CanE.int : CanE eI (fun _ => True) := ⟨fun a _ => by simp [PyData.canLay0]⟩
theorem CanE.bool : CanE eB (fun _ => True) := ⟨fun a _ => by simp [PyData.canLay0]⟩
theorem CanE.str : CanE eS (fun z => PyData.strOk z = true) := ⟨fun a h => by simpa [PyData.canLay0] using h⟩
theorem CanE.t2 {p : α → Prop} {q : β → Prop} (h : CanE ea p) (h2 : CanE eb q) : CanE (eT2 ea eb) (fun z => p z.1 ∧ q z.2) := ⟨fun a z => by simp [PyData.canLay0, PyData.canLayAll0, h.can _ z.1, h2.can _ z.2]⟩
theorem CanE.t3 {p : α → Prop} {q : β → Prop} {r : γ → Prop} (h : CanE ea p) (h2 : CanE eb q) (h3 : CanE ec r) : CanE (eT3 ea eb ec) (fun z => p z.1 ∧ q z.2.1 ∧ r z.2.2) := ⟨fun a z => by simp [PyData.canLay0, PyData.canLayAll0, h.can _ z.1, h2.can _ z.2.1, h3.can _ z.2.2]⟩
theorem CanE.all {p : α → Prop} (h : CanE e p) : ∀ xs : List α, (∀ x ∈ xs, p x) → PyData.canLayAll0 (xs.map e) = true
  | [], _ => by simp [PyData.canLayAll0]
  | x :: xs, z => by
    have := h.all xs fun y hy => z y (List.mem_cons_of_mem _ hy)
    simp [PyData.canLayAll0, this, h.can x (z x List.mem_cons_self)]
theorem CanE.lst {p : α → Prop} (h : CanE e p) : CanE (eLst e) (fun xs => ∀ x ∈ xs, p x) := ⟨fun a z => by simpa [PyData.canLay0] using h.all a z⟩
theorem CanE.tup {p : α → Prop} (h : CanE e p) : CanE (eTup e) (fun xs => ∀ x ∈ xs, p x) := ⟨fun a z => by simpa [PyData.canLay0] using h.all a z⟩
theorem EqE.shaped {n : Nat} (h : EqE e n) (hn : n ≤ 64) {a : α} (hc : (e a).canLay0 = true) : SeqAt.shaped (e a) = true := by
  unfold SeqAt.shaped
  rw [hc, decide_eq_true (Nat.le_trans (h.dep a) hn)]
  rfl
def eqW {α : Type} [DecidableEq α] (e : α → PyData) (a b : α) (Q : Bool → Prop) : Prop := ((e a).canLay0 = true ∧ (e b).canLay0 = true) ∧ Q (decide (a = b))
def neW {α : Type} [DecidableEq α] (e : α → PyData) (a b : α) (Q : Bool → Prop) : Prop := ((e a).canLay0 = true ∧ (e b).canLay0 = true) ∧ Q (!decide (a = b))
def EvHW (K : PySem.W.Frag) (W : Fx) (te : TE) (ρ : List Sk) (e : α → PyData) (w : (α → Prop) → Prop) : Prop := ∀ P, w P → ∀ D0 H0 D H σ, Env K W D0 H0 D H σ ρ → ∀ R : VK,
  (∀ v D' H' a, Step W D H D' H' → (∀ D2 H2, Step W D' H' D2 H2 → Dq K H2 v (e a)) → P a → R v H') → te σ H R
theorem EvW.h {w : (α → Prop) → Prop} (h : EvW K W te ρ e w) : EvHW K W te ρ e w := fun P p D0 H0 D H σ en R r =>
  h P p D0 H0 D H σ en R fun v D' H' d s q ⟨a, z, pa⟩ => r v D' H' a s (fun D2 H2 s2 => by rw [← z]; exact q.up (s2.gro.trans s2.sub)) pa
theorem EvLW.h {w : (List α → Prop) → Prop} (h : EvLW K W te ρ e w) : EvHW K W te ρ (eLst e) w := fun P p D0 H0 D H σ en R r =>
  h P p D0 H0 D H σ en R fun l vs D' H' ds s k q ⟨xs, z, pa⟩ => r (.ref l) D' H' xs s (fun D2 H2 s2 => .lst (k D2 H2 s2) (by rw [← z]; exact q.up (s2.gro.trans s2.sub))) pa
theorem w_eqQ [DecidableEq α] {n : Nat} {wa wb : (α → Prop) → Prop} (ha : EvHW K W ta ρ e wa) (hb : EvHW K W tb ρ e wb) (he : EqE e n) (hn : n ≤ 64) : EvW K W (tOp (rEqQ K false) ta tb) ρ eB (fun Q => wa fun a => wb fun b => eqW e a b Q) := fun Q q D0 H0 D H σ en R r =>
  ha _ q D0 H0 D H σ en _ fun v D1 H1 a s1 k1 p1 => hb _ p1 D0 H0 D1 H1 σ (en.step s1) _ fun u D2 H2 b s2 k2 p2 => by
    have s12 := s1.trans en.ok s2
    have o2 := s12.ok en.ok
    refine ⟨_, _, k1 D2 H2 s2, k2 D2 H2 (.refl o2), he.shaped hn p2.1.1, he.shaped hn p2.1.2, r _ D2 H2 (.bool (PyData.eqv (e a) (e b))) s12 (.bl _) ⟨_, ?_, p2.2⟩⟩
    show PyData.bool _ = PyData.bool _
    congr 1
    have := he.eqv a b
    cases h : PyData.eqv (e a) (e b) with
    | true =>
      rw [h] at this
      exact (decide_eq_true (this.mp rfl)).symm
    | false =>
      rw [h] at this
      exact (decide_eq_false fun z => by have := this.mpr z; cases this).symm
theorem w_neQ [DecidableEq α] {n : Nat} {wa wb : (α → Prop) → Prop} (ha : EvHW K W ta ρ e wa) (hb : EvHW K W tb ρ e wb) (he : EqE e n) (hn : n ≤ 64) : EvW K W (tOp (rEqQ K true) ta tb) ρ eB (fun Q => wa fun a => wb fun b => neW e a b Q) := fun Q q D0 H0 D H σ en R r =>
  ha _ q D0 H0 D H σ en _ fun v D1 H1 a s1 k1 p1 => hb _ p1 D0 H0 D1 H1 σ (en.step s1) _ fun u D2 H2 b s2 k2 p2 => by
    have s12 := s1.trans en.ok s2
    have o2 := s12.ok en.ok
    refine ⟨_, _, k1 D2 H2 s2, k2 D2 H2 (.refl o2), he.shaped hn p2.1.1, he.shaped hn p2.1.2, r _ D2 H2 (.bool (!PyData.eqv (e a) (e b))) s12 (.bl _) ⟨_, ?_, p2.2⟩⟩
    show PyData.bool _ = PyData.bool _
    congr 2
    have := he.eqv a b
    cases h : PyData.eqv (e a) (e b) with
    | true =>
      rw [h] at this
      exact (decide_eq_true (this.mp rfl)).symm
    | false =>
      rw [h] at this
      exact (decide_eq_false fun z => by have := this.mpr z; cases this).symm
/-! repr -/
def reprW (d : PyData) (Q : Str → Prop) : Prop := (d.showable = true ∧ d.hasDict = false ∧ d.depth ≤ 60 ∧ d.shown.length ≤ sizeLine) ∧ Q d.shown
theorem w_repr {w : (α → Prop) → Prop} (h : EvHW K W te ρ e w) : EvW K W (tCB (rRepr K) (tCons te tNil)) ρ eS (fun Q => w fun a => reprW (e a) Q) := fun Q q D0 H0 D H σ en R r =>
  h _ q D0 H0 D H σ en _ fun v D1 H1 a s1 k1 p1 => by
    have o1 := s1.ok en.ok
    exact ⟨v, _, rfl, k1 D1 H1 (.refl o1), p1.1.1, p1.1.2.1, p1.1.2.2.1, p1.1.2.2.2, r _ D1 H1 _ s1 (.str _) ⟨_, rfl, p1.2⟩⟩
/-! numbers -/
theorem d_add {i j : Int} (ha : EvD K W ta ρ (eI i)) (hb : EvD K W tb ρ (eI j)) : EvD K W (tOp (rI0 fun i j => .int (i + j)) ta tb) ρ (eI (i + j)) := ev_opD ha hb (rd_I0 fun _ => .int _)
theorem d_sub {i j : Int} (ha : EvD K W ta ρ (eI i)) (hb : EvD K W tb ρ (eI j)) : EvD K W (tOp (rI0 fun i j => .int (i - j)) ta tb) ρ (eI (i - j)) := ev_opD ha hb (rd_I0 fun _ => .int _)
theorem d_lt {i j : Int} (ha : EvD K W ta ρ (eI i)) (hb : EvD K W tb ρ (eI j)) : EvD K W (tOp (rI0 fun i j => .bl (decide (i < j))) ta tb) ρ (eB (decide (i < j))) := ev_opD ha hb (rd_I0 fun _ => .bl _)
theorem d_le {i j : Int} (ha : EvD K W ta ρ (eI i)) (hb : EvD K W tb ρ (eI j)) : EvD K W (tOp (rI0 fun i j => .bl (decide (i ≤ j))) ta tb) ρ (eB (decide (i ≤ j))) := ev_opD ha hb (rd_I0 fun _ => .bl _)
theorem d_gt {i j : Int} (ha : EvD K W ta ρ (eI i)) (hb : EvD K W tb ρ (eI j)) : EvD K W (tOp (rI0 fun i j => .bl (decide (i > j))) ta tb) ρ (eB (decide (i > j))) := ev_opD ha hb (rd_I0 fun _ => .bl _)
theorem d_ge {i j : Int} (ha : EvD K W ta ρ (eI i)) (hb : EvD K W tb ρ (eI j)) : EvD K W (tOp (rI0 fun i j => .bl (decide (i ≥ j))) ta tb) ρ (eB (decide (i ≥ j))) := ev_opD ha hb (rd_I0 fun _ => .bl _)
theorem d_eqI {i j : Int} (ha : EvD K W ta ρ (eI i)) (hb : EvD K W tb ρ (eI j)) : EvD K W (tOp rEq ta tb) ρ (eB (decide (i = j))) := ev_opD ha hb rd_eqI
theorem d_neI {i j : Int} (ha : EvD K W ta ρ (eI i)) (hb : EvD K W tb ρ (eI j)) : EvD K W (tOp rNe ta tb) ρ (eB (!decide (i = j))) := ev_opD ha hb rd_neI
theorem d_eqS {i j : Str} (ha : EvD K W ta ρ (eS i)) (hb : EvD K W tb ρ (eS j)) : EvD K W (tOp rEq ta tb) ρ (eB (decide (i = j))) := ev_opD ha hb rd_eqS
theorem d_neS {i j : Str} (ha : EvD K W ta ρ (eS i)) (hb : EvD K W tb ρ (eS j)) : EvD K W (tOp rNe ta tb) ρ (eB (!decide (i = j))) := ev_opD ha hb rd_neS
theorem d_neg {i : Int} (ha : EvD K W ta ρ (eI i)) : EvD K W (tUn (fun x H Q => ∃ i, x = .int i ∧ Q (.int (-i)) H) ta) ρ (eI (-i)) := ev_un ha fun d z D H x o hx Q q => by
  rw [z] at hx
  cases hx
  exact ⟨i, rfl, q _ D H _ (.refl o) (.int _) rfl⟩
theorem d_mulL {i j : Int} (ha : EvD K W ta ρ (eI i)) (hb : EvD K W tb ρ (eI j)) (h : -(2 ^ 64) < i ∧ i < 2 ^ 64) : EvD K W (tOp (rI CMul fun i j => .int (i * j)) ta tb) ρ (eI (i * j)) := ev_opD ha hb (rd_mulL h)
theorem d_mulR {i j : Int} (ha : EvD K W ta ρ (eI i)) (hb : EvD K W tb ρ (eI j)) (h : -(2 ^ 64) < j ∧ j < 2 ^ 64) : EvD K W (tOp (rI CMul fun i j => .int (i * j)) ta tb) ρ (eI (i * j)) := ev_opD ha hb (rd_mulR h)
theorem d_mod {i j : Int} (ha : EvD K W ta ρ (eI i)) (hb : EvD K W tb ρ (eI j)) (h : j ≠ 0) : EvD K W (tOp (rI (fun _ j => j ≠ 0) fun i j => .int (i.fmod j)) ta tb) ρ (eI (i.fmod j)) := ev_opD ha hb (rd_I h fun _ => .int _)
theorem d_div {i j : Int} (ha : EvD K W ta ρ (eI i)) (hb : EvD K W tb ρ (eI j)) (h : j ≠ 0 ∧ j.natAbs < 1073741824) : EvD K W (tOp (rI CDivN fun i j => .int (i.fdiv j)) ta tb) ρ (eI (i.fdiv j)) := ev_opD ha hb (rd_I h fun _ => .int _)
def mulW (i j : Int) (Q : Int → Prop) : Prop := CMul i j ∧ Q (i * j)
def modW (i j : Int) (Q : Int → Prop) : Prop := j ≠ 0 ∧ Q (i.fmod j)
def divW (i j : Int) (Q : Int → Prop) : Prop := (j ≠ 0 ∧ j.natAbs < 1073741824) ∧ Q (i.fdiv j)
theorem RI.w {C : Int → Int → Prop} {g : Int → Int → Int} : ∀ (i j : Int) (Q : Int → Prop), (C i j ∧ Q (g i j)) → RD K W (rI C fun i j => .int (g i j)) (eI i) (eI j) (fun d => ∃ c, d = eI c ∧ Q c) := fun i j Q q D H x y o hx hy R r => by
  cases hx
  cases hy
  exact ⟨i, j, rfl, rfl, q.1, r _ D H _ (.refl o) (.int _) ⟨_, rfl, q.2⟩⟩
theorem w_mul {wa wb : (Int → Prop) → Prop} (ha : EvW K W ta ρ eI wa) (hb : EvW K W tb ρ eI wb) : EvW K W (tOp (rI CMul fun i j => .int (i * j)) ta tb) ρ eI (fun Q => wa fun a => wb fun b => mulW a b Q) := evw_op ha hb RI.w
theorem w_mod {wa wb : (Int → Prop) → Prop} (ha : EvW K W ta ρ eI wa) (hb : EvW K W tb ρ eI wb) : EvW K W (tOp (rI (fun _ j => j ≠ 0) fun i j => .int (i.fmod j)) ta tb) ρ eI (fun Q => wa fun a => wb fun b => modW a b Q) := evw_op ha hb RI.w
theorem w_div {wa wb : (Int → Prop) → Prop} (ha : EvW K W ta ρ eI wa) (hb : EvW K W tb ρ eI wb) : EvW K W (tOp (rI CDivN fun i j => .int (i.fdiv j)) ta tb) ρ eI (fun Q => wa fun a => wb fun b => divW a b Q) := evw_op ha hb RI.w
/-- total operations on ints, bools -/
theorem w_opI {f : Int → Int → γ} {g : Int → Int → V} {wa wb : (Int → Prop) → Prop} (hg : ∀ i j D, Dq K D (g i j) (ec (f i j))) (ha : EvW K W ta ρ eI wa) (hb : EvW K W tb ρ eI wb) : EvW K W (tOp (rI0 g) ta tb) ρ ec (fun Q => wa fun a => wb fun b => lt (f a b) Q) :=
  evw_op ha hb (RD.w fun a b => rd_I0 (hg a b))
theorem w_eqI {wa wb : (Int → Prop) → Prop} (ha : EvW K W ta ρ eI wa) (hb : EvW K W tb ρ eI wb) : EvW K W (tOp rEq ta tb) ρ eB (fun Q => wa fun a => wb fun b => lt (decide (a = b)) Q) := evw_op ha hb (RD.w fun a b => rd_eqI)
theorem w_neI {wa wb : (Int → Prop) → Prop} (ha : EvW K W ta ρ eI wa) (hb : EvW K W tb ρ eI wb) : EvW K W (tOp rNe ta tb) ρ eB (fun Q => wa fun a => wb fun b => lt (!decide (a = b)) Q) := evw_op ha hb (RD.w fun a b => rd_neI)
theorem w_eqS {wa wb : (Str → Prop) → Prop} (ha : EvW K W ta ρ eS wa) (hb : EvW K W tb ρ eS wb) : EvW K W (tOp rEq ta tb) ρ eB (fun Q => wa fun a => wb fun b => lt (decide (a = b)) Q) := evw_op ha hb (RD.w fun a b => rd_eqS)
theorem w_neS {wa wb : (Str → Prop) → Prop} (ha : EvW K W ta ρ eS wa) (hb : EvW K W tb ρ eS wb) : EvW K W (tOp rNe ta tb) ρ eB (fun Q => wa fun a => wb fun b => lt (!decide (a = b)) Q) := evw_op ha hb (RD.w fun a b => rd_neS)
def rMin2 : List V → Hp → VK → Prop := fun xs H Q => ∃ i j, xs = [.int i, .int j] ∧ Q (.int (if j < i then j else i)) H
def rMax2 : List V → Hp → VK → Prop := fun xs H Q => ∃ i j, xs = [.int i, .int j] ∧ Q (.int (if j > i then j else i)) H
theorem w_min2 {wa wb : (Int → Prop) → Prop} (ha : EvW K W ta ρ eI wa) (hb : EvW K W tb ρ eI wb) : EvW K W (tCB rMin2 (tCons ta (tCons tb tNil))) ρ eI (fun Q => wa fun a => wb fun b => lt (if b < a then b else a) Q) := fun Q q D0 H0 D H σ en R r =>
  ha _ q D0 H0 D H σ en _ fun u D1 H1 d s1 q1 ⟨m, z, p⟩ => hb _ p D0 H0 D1 H1 σ (en.step s1) _ fun u2 D2 H2 d2 s2 q2 ⟨n, z2, p2⟩ => by
    subst z
    subst z2
    cases q1
    cases q2
    exact ⟨m, n, rfl, r _ D2 H2 _ (s1.trans en.ok s2) (.int _) ⟨_, rfl, p2⟩⟩
theorem w_max2 {wa wb : (Int → Prop) → Prop} (ha : EvW K W ta ρ eI wa) (hb : EvW K W tb ρ eI wb) : EvW K W (tCB rMax2 (tCons ta (tCons tb tNil))) ρ eI (fun Q => wa fun a => wb fun b => lt (if b > a then b else a) Q) := fun Q q D0 H0 D H σ en R r =>
  ha _ q D0 H0 D H σ en _ fun u D1 H1 d s1 q1 ⟨m, z, p⟩ => hb _ p D0 H0 D1 H1 σ (en.step s1) _ fun u2 D2 H2 d2 s2 q2 ⟨n, z2, p2⟩ => by
    subst z
    subst z2
    cases q1
    cases q2
    exact ⟨m, n, rfl, r _ D2 H2 _ (s1.trans en.ok s2) (.int _) ⟨_, rfl, p2⟩⟩
/-! in -/
theorem inV_strs {k : Str} (ns : List Str) : inV (.str k) (ns.map V.str) = decide (k ∈ ns) := by
  unfold inV
  rw [List.any_map]
  induction ns with
  | nil => rfl
  | cons n ns ih =>
    rw [List.any_cons, ih]
    show ((n == k) || _) = _
    by_cases h : n = k
    · simp [h]
    · have h' : ¬ k = n := fun z => h z.symm
      simp [h, h']
theorem flat_strs (ns : List Str) : (ns.map V.str).all flatV = true := by
  rw [List.all_map]
  exact List.all_eq_true.mpr fun _ _ => rfl
def negB (neg b : Bool) : Bool := if neg = true then !b else b
theorem w_inIT {neg : Bool} {wa : (Int → Prop) → Prop} {wb : (List Int → Prop) → Prop} (ha : EvW K W ta ρ eI wa) (hb : EvW K W tb ρ (eTup eI) wb) : EvW K W (tOp (rIn K neg) ta tb) ρ eB (fun Q => wa fun a => wb fun b => lt (negB neg (decide (a ∈ b))) Q) := fun Q q D0 H0 D H σ en R r =>
  ha _ q D0 H0 D H σ en _ fun u D1 H1 d s1 q1 ⟨m, z, p⟩ => hb _ p D0 H0 D1 H1 σ (en.step s1) _ fun u2 D2 H2 d2 s2 q2 ⟨ns, z2, p2⟩ => by
    subst z
    subst z2
    cases q1
    cases q2 with
    | tup h1 h2 =>
      have := h2.isInts ns
      subst this
      refine ⟨_, _, rfl, Or.inr (same_t s2.sub h1), rfl, flat_ints ns, ?_⟩
      rw [inV_ints]
      exact r _ D2 H2 _ (s1.trans en.ok s2) (.bl _) ⟨_, rfl, p2⟩
theorem w_inIL {neg : Bool} {wa : (Int → Prop) → Prop} {wb : (List Int → Prop) → Prop} (ha : EvW K W ta ρ eI wa) (hb : EvLW K W tb ρ eI wb) : EvW K W (tOp (rIn K neg) ta tb) ρ eB (fun Q => wa fun a => wb fun b => lt (negB neg (decide (a ∈ b))) Q) := fun Q q D0 H0 D H σ en R r =>
  ha _ q D0 H0 D H σ en _ fun u D1 H1 d s1 q1 ⟨m, z, p⟩ => hb _ p D0 H0 D1 H1 σ (en.step s1) _ fun l vs D2 H2 d2 s2 k2 q2 ⟨ns, z2, p2⟩ => by
    subst z
    subst z2
    cases q1
    have := q2.isInts ns
    subst this
    refine ⟨_, _, rfl, Or.inl (k2 D2 H2 (.refl ((s1.trans en.ok s2).ok en.ok))), rfl, flat_ints ns, ?_⟩
    rw [inV_ints]
    exact r _ D2 H2 _ (s1.trans en.ok s2) (.bl _) ⟨_, rfl, p2⟩
theorem w_inST {neg : Bool} {wa : (Str → Prop) → Prop} {wb : (List Str → Prop) → Prop} (ha : EvW K W ta ρ eS wa) (hb : EvW K W tb ρ (eTup eS) wb) : EvW K W (tOp (rIn K neg) ta tb) ρ eB (fun Q => wa fun a => wb fun b => lt (negB neg (decide (a ∈ b))) Q) := fun Q q D0 H0 D H σ en R r =>
  ha _ q D0 H0 D H σ en _ fun u D1 H1 d s1 q1 ⟨m, z, p⟩ => hb _ p D0 H0 D1 H1 σ (en.step s1) _ fun u2 D2 H2 d2 s2 q2 ⟨ns, z2, p2⟩ => by
    subst z
    subst z2
    cases q1
    cases q2 with
    | tup h1 h2 =>
      have := h2.isStrs ns
      subst this
      refine ⟨_, _, rfl, Or.inr (same_t s2.sub h1), rfl, flat_strs ns, ?_⟩
      rw [inV_strs]
      exact r _ D2 H2 _ (s1.trans en.ok s2) (.bl _) ⟨_, rfl, p2⟩
theorem w_inSL {neg : Bool} {wa : (Str → Prop) → Prop} {wb : (List Str → Prop) → Prop} (ha : EvW K W ta ρ eS wa) (hb : EvLW K W tb ρ eS wb) : EvW K W (tOp (rIn K neg) ta tb) ρ eB (fun Q => wa fun a => wb fun b => lt (negB neg (decide (a ∈ b))) Q) := fun Q q D0 H0 D H σ en R r =>
  ha _ q D0 H0 D H σ en _ fun u D1 H1 d s1 q1 ⟨m, z, p⟩ => hb _ p D0 H0 D1 H1 σ (en.step s1) _ fun l vs D2 H2 d2 s2 k2 q2 ⟨ns, z2, p2⟩ => by
    subst z
    subst z2
    cases q1
    have := q2.isStrs ns
    subst this
    refine ⟨_, _, rfl, Or.inl (k2 D2 H2 (.refl ((s1.trans en.ok s2).ok en.ok))), rfl, flat_strs ns, ?_⟩
    rw [inV_strs]
    exact r _ D2 H2 _ (s1.trans en.ok s2) (.bl _) ⟨_, rfl, p2⟩
end
end Dl

/-! ## Several targets at once; stores -/
namespace Dl
open PySem PySem.Spec L2 PyProof.Rows
def Apart (l : Addr) (vs : List V) (ks : List Sk) : Prop := ∀ (i : Nat) s ds, ks[i]? = some (.ob s ds) → vs[i]? ≠ some (V.ref l)
/-- results of an argument list: data, or new lists -/
inductive Mix (K : PySem.W.Frag) (W : Fx) (H D H' : Hp) : List V → List Sk → Prop
  | nil : Mix K W H D H' [] []
  | dat {v : V} {d : PyData} {vs : List V} {ks : List Sk} : Dq K D v d → Mix K W H D H' vs ks → Mix K W H D H' (v :: vs) (.dat d :: ks)
  | own {l : Addr} {s : Shp} {xs : List V} {ds : List PyData} {vs : List V} {ks : List Sk} : H l = none → D l = none → H' l = some (s.ho xs) → DqA K D xs ds → Apart l vs ks → Mix K W H D H' vs ks → Mix K W H D H' (.ref l :: vs) (.ob s ds :: ks)
def EvM (K : PySem.W.Frag) (W : Fx) {α : Type} (ta : TA) (ρ : List Sk) (ks : α → List Sk) (w : (α → Prop) → Prop) : Prop := ∀ P, w P → ∀ D0 H0 D H σ, Env K W D0 H0 D H σ ρ → ∀ Q : List V → Hp → Prop,
  (∀ vs D' H' a, Step W D H D' H' → Mix K W H D' H' vs (ks a) → P a → Q vs H') → ta σ H Q
section
variable {K : PySem.W.Frag} {W : Fx} {EX : Hp → Prop} {ρ : List Sk} {α β : Type} {te : TE} {ta : TA} {e : α → PyData} {D0 H0 D H D1 H1 D2 H2 : Hp} {σ : L2.St} {tr : TS} {O : Out}
theorem Mix.len {vs : List V} {ks : List Sk} (m : Mix K W H D1 H1 vs ks) : vs.length = ks.length := by
  induction m with
  | nil => rfl
  | dat _ _ ih => rw [List.length_cons, List.length_cons, ih]
  | own _ _ _ _ _ _ ih => rw [List.length_cons, List.length_cons, ih]
theorem Mix.apart {l : Addr} {vs : List V} {ks : List Sk} (m : Mix K W H D1 H1 vs ks) (h : H l ≠ none) : Apart l vs ks := by
  induction m with
  | nil => intro i s ds e; simp at e
  | dat q _ ih =>
    intro i s ds e1 e2
    cases i with
    | zero => cases e1
    | succ i => exact ih i s ds e1 e2
  | own h1 _ _ _ _ _ ih =>
    intro i s ds e1 e2
    cases i with
    | zero =>
      cases e2
      exact h h1
    | succ i => exact ih i s ds e1 e2
theorem Mix.mono {vs : List V} {ks : List Sk} (m : Mix K W H1 D2 H2 vs ks) (k : ∀ l, H1 l = none → H l = none) : Mix K W H D2 H2 vs ks := by
  induction m with
  | nil => exact .nil
  | dat q _ ih => exact .dat q ih
  | own h1 h2 h3 h4 h5 _ ih => exact .own (k _ h1) h2 h3 h4 h5 ih
def setV (σ : L2.St) : List (Nat × V) → L2.St
  | [] => σ
  | (i, v) :: r => setV (σ.set i (some v)) r
def setK (ρ : List Sk) : List (Nat × Sk) → List Sk
  | [] => ρ
  | (i, k) :: r => setK (ρ.set i k) r
theorem Env.setMix {H' : Hp} : ∀ {is : List Nat} {vs : List V} {ks : List Sk} {σ : L2.St} {ρ : List Sk}, Env K W D0 H0 D1 H1 σ ρ → Mix K W H D1 H1 vs ks → (∀ l, H l = none → H0 l = none ∧ ¬ W.adr l) → is.length = ks.length → (∀ i ∈ is, i < ρ.length) →
    (∀ (j : Nat) l t es, H l = none → ρ[j]? = some (.ob t es) → σ[j]? = some (some (.ref l)) → Apart l vs ks) → Env K W D0 H0 D1 H1 (setV σ (is.zip vs)) (setK ρ (is.zip ks))
  | [], _, _, σ, ρ, en, m, f, hl, hi, ap => by
    rw [List.zip_nil_left, List.zip_nil_left]
    exact en
  | i :: is, _, _, σ, ρ, en, .nil, f, hl, hi, ap => by cases hl
  | i :: is, _, _, σ, ρ, en, .dat q m, f, hl, hi, ap => by
    have hi0 := hi i List.mem_cons_self
    refine (show Env K W D0 H0 D1 H1 (setV (σ.set i (some _)) (is.zip _)) (setK (ρ.set i (.dat _)) (is.zip _)) from ?_)
    refine Env.setMix (H' := H') (σ := σ.set i (some _)) (ρ := ρ.set i (.dat _)) (is := is) (en.set hi0 q) m f (by simpa using hl) (fun j hj => by rw [List.length_set]; exact hi j (List.mem_cons_of_mem _ hj)) fun j l t es hn h1 h2 => ?_
    by_cases hj : i = j
    · subst hj
      rw [List.getElem?_set_self hi0] at h1
      cases h1
    · rw [List.getElem?_set_ne hj] at h1 h2
      exact fun a s ds z1 z2 => ap j l t es hn h1 h2 (a + 1) s ds z1 z2
  | i :: is, _, _, σ, ρ, en, .own h1 h2 h3 h4 h5 m, f, hl, hi, ap => by
    have hi0 := hi i List.mem_cons_self
    have hσ : i < σ.length := en.lt (List.getElem?_eq_getElem hi0)
    refine (show Env K W D0 H0 D1 H1 (setV (σ.set i (some _)) (is.zip _)) (setK (ρ.set i (.ob _ _)) (is.zip _)) from ?_)
    refine Env.setMix (H' := H') (σ := σ.set i (some _)) (ρ := ρ.set i (.ob _ _)) (is := is) (en.setOwn hi0 h2 (f _ h1).1 (f _ h1).2 h3 h4 fun j t es hj e1 e2 => ?_) m f (by simpa using hl) (fun j hj => by rw [List.length_set]; exact hi j (List.mem_cons_of_mem _ hj)) fun j l t es hn e1 e2 => ?_
    · exact ap j _ t es h1 e1 e2 0 _ _ rfl rfl
    · by_cases hj : i = j
      · subst hj
        rw [List.getElem?_set_self hσ] at e2
        cases e2
        exact h5
      · rw [List.getElem?_set_ne hj] at e1 e2
        exact fun a s ds z1 z2 => ap j l t es hn e1 e2 (a + 1) s ds z1 z2
theorem Env.mixed {is : List Nat} {vs : List V} {ks : List Sk} (en : Env K W D0 H0 D H σ ρ) (s : Step W D H D1 H1) (m : Mix K W H D1 H1 vs ks) (hl : is.length = ks.length) (hi : ∀ i ∈ is, i < ρ.length) : Env K W D0 H0 D1 H1 (setV σ (is.zip vs)) (setK ρ (is.zip ks)) := by
  refine Env.setMix (H' := H1) (en.step s) m (fun l hn => ?_) hl hi fun j l t es hn e1 e2 => ?_
  · have hw : ¬ W.adr l := fun hw => W.has H l en.st.inv hw hn
    refine ⟨?_, hw⟩
    cases z : H0 l with
    | none => rfl
    | some u =>
      rw [en.st.off l u hw z] at hn
      cases hn
  · obtain ⟨o, q1, m', ys, q2, q3, q4, q5, q6, q7⟩ := en.slot j _ e1
    rw [e2] at q1
    cases q1
    cases q2
    rw [hn] at q6
    cases q6
theorem em_nil : EvM K W tNil ρ (fun _ : Unit => []) (fun Q => Q ()) := fun P p D0 H0 D H σ en Q q => q [] D H () (.refl en.ok) .nil p
theorem fresh_mono (o : Ok W D H) (s : Step W D H D1 H1) : ∀ l, H1 l = none → H l = none := fun l h => fresh_of o s h
theorem em_dat {w : (α → Prop) → Prop} {v : (β → Prop) → Prop} {ks : β → List Sk} (h : EvW K W te ρ e w) (hr : EvM K W ta ρ ks v) : EvM K W (tCons te ta) ρ (fun p : α × β => .dat (e p.1) :: ks p.2) (fun Q => w fun a => v fun b => Q (a, b)) := fun P p D0 H0 D H σ en Q q =>
  h _ p D0 H0 D H σ en _ fun x D1 H1 d s1 q1 ⟨a, z, p1⟩ => hr _ p1 D0 H0 D1 H1 σ (en.step s1) _ fun vs D2 H2 b s2 m p2 => by
    refine q _ D2 H2 (a, b) (s1.trans en.ok s2) (.dat (by rw [← z]; exact q1.up s2.gro) (m.mono (fresh_mono en.ok s1))) p2
theorem em_own {w : (List α → Prop) → Prop} {v : (β → Prop) → Prop} {ks : β → List Sk} (h : EvFW K W te ρ e w) (hr : EvM K W ta ρ ks v) : EvM K W (tCons te ta) ρ (fun p : List α × β => .own (p.1.map e) :: ks p.2) (fun Q => w fun a => v fun b => Q (a, b)) := fun P p D0 H0 D H σ en Q q =>
  h _ p D0 H0 D H σ en _ fun l xs D1 H1 ds s1 hn hd hl q1 ⟨a, z, p1⟩ => hr _ p1 D0 H0 D1 H1 σ (en.step s1) _ fun vs D2 H2 b s2 m p2 => by
    have hw : ¬ W.adr l := fun hw => W.has H l en.st.inv hw hn
    have hl' : H1 l ≠ none := by rw [hl]; exact fun z => nomatch z
    refine q _ D2 H2 (a, b) (s1.trans en.ok s2) (.own (s := .lst) hn (s2.new l hd hl' (by rw [hl]; exact fun _ z => nomatch z)) (s2.off l _ hw hl) (by rw [← z]; exact q1.up s2.gro) (m.apart hl') (m.mono (fresh_mono en.ok s1))) p2
/-- .. and any new own object -/
theorem em_ob {sh : α → Shp} {f : α → List PyData} {w : (α → Prop) → Prop} {v : (β → Prop) → Prop} {ks : β → List Sk} (h : ∀ Q, w Q → ∀ D0 H0 D H σ, Env K W D0 H0 D H σ ρ → ∀ R : VK, (∀ l xs D' H' a, Step W D H D' H' → H l = none → D' l = none → H' l = some ((sh a).ho xs) → DqA K D' xs (f a) → Q a → R (.ref l) H') → te σ H R)
    (hr : EvM K W ta ρ ks v) : EvM K W (tCons te ta) ρ (fun p : α × β => .ob (sh p.1) (f p.1) :: ks p.2) (fun Q => w fun a => v fun b => Q (a, b)) := fun P p D0 H0 D H σ en Q q =>
  h _ p D0 H0 D H σ en _ fun l xs D1 H1 a s1 hn hd hl q1 p1 => hr _ p1 D0 H0 D1 H1 σ (en.step s1) _ fun vs D2 H2 b s2 m p2 => by
    have hw : ¬ W.adr l := fun hw => W.has H l en.st.inv hw hn
    have hl' : H1 l ≠ none := by rw [hl]; exact fun z => nomatch z
    refine q _ D2 H2 (a, b) (s1.trans en.ok s2) (.own hn (s2.new l hd hl' (fun ys => by rw [hl]; exact Shp.noT _ _ ys)) (s2.off l _ hw hl) (q1.up s2.gro) (m.apart hl') (m.mono (fresh_mono en.ok s1))) p2
theorem st_par2M {i j : Nat} {ks : α → List Sk} {w : (α → Prop) → Prop} {Q : α → Prop} {k1 k2 : α → Sk} (hi : i < ρ.length) (hj : j < ρ.length) (h : EvM K W ta ρ ks w) (q : w fun a => lt a Q) (hk : ∀ a, ks a = [k1 a, k2 a]) (k : ∀ a, Q a → StG K W EX tr ((ρ.set i (k1 a)).set j (k2 a)) O) : StG K W EX (tSeq (tPar i j ta) tr) ρ O := fun D0 H0 D H σ Dn en kn kb kc kr kx =>
  h _ q D0 H0 D H σ en _ fun vs D1 H1 a s1 m p => by
    have hm := m.len
    rw [hk a] at hm m
    match vs, hm with
    | [u, v], _ =>
      refine ⟨u, v, rfl, ?_⟩
      have e2 := en.mixed (is := [i, j]) s1 m rfl (by
        intro x hx
        simp at hx
        rcases hx with rfl | rfl
        · exact hi
        · exact hj)
      exact k a p D0 H0 D1 H1 _ Dn e2 (fun a b c x g2 => kn a b c x (s1.gro.trans g2)) (fun a b c x g2 => kb a b c x (s1.gro.trans g2)) (fun a b c x g2 => kc a b c x (s1.gro.trans g2)) kr kx
theorem st_par3M {i j l : Nat} {ks : α → List Sk} {w : (α → Prop) → Prop} {Q : α → Prop} {k1 k2 k3 : α → Sk} (hi : i < ρ.length) (hj : j < ρ.length) (hl : l < ρ.length) (h : EvM K W ta ρ ks w) (q : w fun a => lt a Q) (hk : ∀ a, ks a = [k1 a, k2 a, k3 a]) (k : ∀ a, Q a → StG K W EX tr (((ρ.set i (k1 a)).set j (k2 a)).set l (k3 a)) O) : StG K W EX (tSeq (tPar3 i j l ta) tr) ρ O := fun D0 H0 D H σ Dn en kn kb kc kr kx =>
  h _ q D0 H0 D H σ en _ fun vs D1 H1 a s1 m p => by
    have hm := m.len
    rw [hk a] at hm m
    match vs, hm with
    | [u, v, x], _ =>
      refine ⟨u, v, x, rfl, ?_⟩
      have e2 := en.mixed (is := [i, j, l]) s1 m rfl (by
        intro x hx
        simp at hx
        rcases hx with rfl | rfl | rfl
        · exact hi
        · exact hj
        · exact hl)
      exact k a p D0 H0 D1 H1 _ Dn e2 (fun a b c x g2 => kn a b c x (s1.gro.trans g2)) (fun a b c x g2 => kb a b c x (s1.gro.trans g2)) (fun a b c x g2 => kc a b c x (s1.gro.trans g2)) kr kx
/-- any number: a tuple is made and taken apart -/
def gNames : List Nat → TGs
  | [] => gNil
  | i :: is => gCons (gName i) (gNames is)
theorem run_names : ∀ (is : List Nat) (vs : List V) (σ : L2.St) (H : Hp) (Q : L2.St → Hp → Prop), is.length = vs.length → Q (setV σ (is.zip vs)) H → gNames is vs σ H Q
  | [], [], σ, H, Q, _, q => ⟨rfl, q⟩
  | i :: is, v :: vs, σ, H, Q, hl, q => ⟨v, vs, rfl, run_names is vs _ H Q (by simpa using hl) q⟩
  | [], _ :: _, _, _, _, hl, _ => by cases hl
  | _ :: _, [], _, _, _, hl, _ => by cases hl
theorem st_parNM {is : List Nat} {n : Nat} {g : TGs} {ks : α → List Sk} {w : (α → Prop) → Prop} {Q : α → Prop} (hg : g = gNames is) (hi : ∀ i ∈ is, i < ρ.length) (h : EvM K W ta ρ ks w) (q : w fun a => lt a Q) (hk : ∀ a, (ks a).length = n) (hn : is.length = n) (hz : n ≤ sizeLine) (k : ∀ a, Q a → StG K W EX tr (setK ρ (is.zip (ks a))) O) : StG K W EX (tSeq (tAsg (tTup ta) (gTup K n g)) tr) ρ O := fun D0 H0 D H σ Dn en kn kb kc kr kx =>
  h _ q D0 H0 D H σ en _ fun vs D1 H1 a s1 m p => by
    subst hg
    have hm := m.len
    have hka := hk a
    refine ⟨by omega, fun t ht => ?_⟩
    have e2 := en.mixed (is := is) s1 m (by omega) hi
    have s2 : Step W D1 H1 D1 (upd H1 t (.tup vs)) := .keptH (s1.ok en.ok) (same_new ht)
    refine ⟨t, vs, rfl, SqT.of upd_same, by omega, run_names is vs σ _ _ (by omega) ?_⟩
    exact k a p D0 H0 D1 _ _ Dn (e2.step s2) (fun a b c x g2 => kn a b c x (s1.gro.trans g2)) (fun a b c x g2 => kb a b c x (s1.gro.trans g2)) (fun a b c x g2 => kc a b c x (s1.gro.trans g2)) kr kx
end
end Dl

/-! ## Smaller words -/
namespace Dl
open PySem PySem.Spec L2 PyProof.Rows
theorem ifW_yes {b : Bool} {p q : Prop} (h : ifW b p q) (z : true = b) : p := by
  unfold ifW at h
  rw [if_pos z.symm] at h
  exact h
theorem ifW_no {b : Bool} {p q : Prop} (h : ifW b p q) (z : false = b) : q := by
  unfold ifW at h
  rw [← z] at h
  exact h
theorem hv_of {ρ : List Sk} {vs : List Nat} {n : Nat} (hn : ρ.length = n) (h : ∀ v ∈ vs, v < n) : ∀ v ∈ vs, v < ρ.length := by
  rw [hn]
  exact h
def addSW (a b : Str) (Q : Str → Prop) : Prop := a.length + b.length ≤ sizeLine ∧ Q (a ++ b)
def lenSW (a : Str) (Q : Int → Prop) : Prop := a.length ≤ sizeLine ∧ Q (a.length : Int)
def rgW (n : Int) (Q : List Int → Prop) : Prop := (-(2 ^ 62) ≤ n ∧ n ≤ 16777216) ∧ Q (rngG 0 n.toNat)
theorem rgV_rng (n : Int) : rgV 0 n = (rngG 0 n.toNat).map V.int := by
  unfold rgV rngG
  rw [List.map_map, Int.sub_zero]
  rfl
theorem rgOk_of {n : Int} (h : -(2 ^ 62) ≤ n ∧ n ≤ 16777216) : RgOk 0 n := ⟨by omega, by omega, by omega, by omega, by omega⟩
def repW {α : Type} (xs : List α) (n : Int) (Q : List α → Prop) : Prop := (-(2 ^ 63) ≤ n ∧ n < 2 ^ 63 ∧ xs.length * n.toNat ≤ sizeLine) ∧ Q (List.replicate n.toNat xs).flatten
def gk (perm : List Nat) {α : Type} (l : List α) : List α := perm.filterMap fun i => l[i]?
section
variable {K : PySem.W.Frag} {W : Fx} {EX : Hp → Prop} {ρ : List Sk} {α β γ : Type} {ta tb tc te : TE} {tt : TT} {t1 t2 tr : TS} {O : Out} {e ea : α → PyData} {eb : β → PyData} {ec : γ → PyData}
theorem st_ifD2 {b : Bool} {p1 p2 : Prop} (h : EvT K W tt ρ (· = b)) (q : ifW b p1 p2) (h1 : p1 → StG K W EX (tSeq t1 tr) ρ O) (h2 : p2 → StG K W EX (tSeq t2 tr) ρ O) : StG K W EX (tSeq (tIfS tt t1 t2) tr) ρ O :=
  st_ifD h (fun z => h1 (ifW_yes q z.symm)) fun z => h2 (ifW_no q z.symm)
theorem st_freezeW {ts : TS} {i : Nat} {xs : List α} (hρ : ρ[i]? = some (.own (xs.map e))) (k : StG K W EX ts (ρ.set i (.dat (eLst e xs))) O) : StG K W EX ts ρ O := st_freeze hρ k
/-! tuples and lists of things -/
theorem evw_tupW {ta : TA} {ea : α → List PyData} {ec : α → PyData} {w : (α → Prop) → Prop} (h : EvAW K W ta ρ ea w) (hc : ∀ a, ec a = .tuple (ea a)) (hl : ∀ a, (ea a).length ≤ sizeLine) : EvW K W (tTup ta) ρ ec (fun Q => w fun a => lt a Q) := fun Q q => evw_tup h hc hl _ q
theorem evw_tupH {ta : TA} {ea : α → List PyData} {f : α → List β} {e : β → PyData} {w : (α → Prop) → Prop} (h : EvAW K W ta ρ ea w) (hc : ∀ a, ea a = (f a).map e) (hl : ∀ a, (ea a).length ≤ sizeLine) : EvW K W (tTup ta) ρ (eTup e) (fun Q => w fun a => lt (f a) Q) := fun Q q =>
  (ev_tup (h _ q) fun ds ⟨a, z, _⟩ => by rw [z]; exact hl a).imp fun d ⟨ds, ⟨a, z, p⟩, z2⟩ => ⟨f a, by rw [z2, z, hc], p⟩
theorem evw_lstUW {ta : TA} {ea : α → List PyData} {ec : α → PyData} {w : (α → Prop) → Prop} (h : EvAW K W ta ρ ea w) (hc : ∀ a, ec a = .list (ea a)) (hl : ∀ a, (ea a).length ≤ sizeLine) : EvW K W (tLst ta) ρ ec (fun Q => w fun a => lt a Q) := fun Q q => evw_lstU h hc hl _ q
/-- an item of a tuple of known width -/
theorem w_prT {ti : TE} {f : α → List PyData} {p : α → γ} {i : Int} {w : (α → Prop) → Prop} (h : EvW K W te ρ e w) (hi : EvD K W ti ρ (eI i)) (he : ∀ a, e a = .tuple (f a)) (hz : ∀ a, atI (f a) i = some (ec (p a))) : EvW K W (tOp (rIxT K) te ti) ρ ec (fun Q => w fun a => lt (p a) Q) := fun Q q =>
  ev_opP (h _ q) (P2 := fun _ d => d = .int i) (fun _ _ => hi) fun d1 d2 ⟨a, z, pa⟩ z2 => by
    rw [z, z2, he]
    exact fun D H x y o hx hy R r => rd_ixT (hz a) D H x y o hx hy R fun v D' H' d s dq z => r v D' H' d s dq ⟨_, z, pa⟩
theorem w_prL {ti : TE} {f : α → List PyData} {p : α → γ} {i : Int} {w : (α → Prop) → Prop} (h : EvW K W te ρ e w) (hi : EvD K W ti ρ (eI i)) (he : ∀ a, e a = .list (f a)) (hz : ∀ a, atI (f a) i = some (ec (p a))) : EvW K W (tOp (rIxL K) te ti) ρ ec (fun Q => w fun a => lt (p a) Q) := fun Q q =>
  ev_opP (h _ q) (P2 := fun _ d => d = .int i) (fun _ _ => hi) fun d1 d2 ⟨a, z, pa⟩ z2 => by
    rw [z, z2, he]
    exact fun D H x y o hx hy R r => rd_ixL (hz a) D H x y o hx hy R fun v D' H' d s dq z => r v D' H' d s dq ⟨_, z, pa⟩
/-- a slice of a tuple of known width -/
theorem w_slU {tl th : TO} {f : α → List PyData} {p : α → γ} {lo hi : Option Int} {w : (α → Prop) → Prop} (h : EvW K W te ρ e w) (hl : EvOv K W tl ρ lo) (hh : EvOv K W th ρ hi) (he : ∀ a, e a = .tuple (f a)) (hz : ∀ a, ec (p a) = .tuple (cutQ (f a) lo hi)) : EvW K W (L2.tSl (rSlA K) te tl th) ρ ec (fun Q => w fun a => lt (p a) Q) := fun Q q D0 H0 D H σ en R r =>
  h _ q D0 H0 D H σ en _ fun v D1 H1 d s1 q1 ⟨a, z, pa⟩ => by
    rw [z, he] at q1
    have hv : EvD K W (fun _ H Q => Q v H) ρ (.tuple (f a)) → True := fun _ => trivial
    have key := hl D0 H0 D1 H1 σ (en.step s1)
    refine hl D0 H0 D1 H1 σ (en.step s1) _ fun D2 H2 s2 => hh D0 H0 D2 H2 σ ((en.step s1).step s2) _ fun D3 H3 s3 => ?_
    cases q1 with
    | tup h1 h2 =>
      have s13 := (s1.trans en.ok s2).trans en.ok s3
      have o3 := s13.ok en.ok
      have g := s2.gro.trans s3.gro
      have hlen := h2.len
      refine ⟨_, _, rfl, same_t (g.trans o3.sub) h1, fun hw => ?_, fun _ p hp => ?_⟩
      · have eq : cutQ (f a) lo hi = f a := by
          unfold cutQ
          rw [hlen] at hw
          rw [hw.1, hw.2, List.drop_zero, Nat.sub_zero, List.take_length]
        refine r _ D3 H3 (.tuple (f a)) s13 (.tup (same_t g h1) (h2.up g)) ⟨_, ?_, pa⟩
        rw [hz, eq]
      · refine r _ _ _ (.tuple (cutQ (f a) lo hi)) (s13.trans en.ok (Step.made o3 hp)) (.tup (SqT.of upd_same) ?_) ⟨_, (hz a).symm, pa⟩
        unfold cutV cutQ
        rw [hlen]
        exact ((h2.up g).up (same_new (o3.sub.free hp))).drop _ |>.take _
/-! back to front -/
theorem w_revT {w : (List α → Prop) → Prop} (h : EvW K W te ρ (eTup e) w) : EvW K W (tRevT K te) ρ (eTup e) (fun Q => w fun xs => lt xs.reverse Q) := fun Q q D0 H0 D H σ en R r =>
  h _ q D0 H0 D H σ en _ fun v D1 H1 d s1 q1 ⟨xs, z, p⟩ => by
    subst z
    have o1 := s1.ok en.ok
    cases q1 with
    | tup h1 h2 =>
      refine ⟨_, _, rfl, same_t s1.sub h1, fun p' hp => ?_⟩
      refine r _ _ _ (eTup e xs.reverse) (s1.trans en.ok (Step.made o1 hp)) (.tup (SqT.of upd_same) ?_) ⟨_, rfl, p⟩
      rw [List.map_reverse]
      exact (h2.up (same_new (o1.sub.free hp))).rev
theorem w_revL {w : (List α → Prop) → Prop} (h : EvLW K W te ρ e w) : EvFW K W (tRevL K te) ρ e (fun Q => w fun xs => lt xs.reverse Q) := fun Q q D0 H0 D H σ en R r =>
  h _ q D0 H0 D H σ en _ fun l vs D1 H1 ds s1 k1 q1 ⟨xs, z, p⟩ => by
    subst z
    have o1 := s1.ok en.ok
    refine ⟨l, vs, rfl, k1 D1 H1 (.refl o1), fun p' hp => ?_⟩
    exact r p' _ D1 _ _ (s1.trans en.ok (.keptH o1 (same_new hp))) (fresh_of en.ok s1 hp) (o1.sub.free hp) upd_same q1.rev ⟨xs.reverse, by rw [List.map_reverse], p⟩
/-! numbers, texts -/
theorem d_pow {i j : Int} (ha : EvD K W ta ρ (eI i)) (hb : EvD K W tb ρ (eI j)) (h : CPow i j) : EvD K W (tOp (rI CPow fun i j => .int (i ^ j.toNat)) ta tb) ρ (eI (i ^ j.toNat)) := ev_opD ha hb (rd_I h fun _ => .int _)
theorem w_abs {w : (Int → Prop) → Prop} (h : EvW K W te ρ eI w) : EvW K W (tCB (fun xs H Q => ∃ i : Int, xs = [V.int i] ∧ Q (V.int (if i < 0 then -i else i)) H) (tCons te tNil)) ρ eI (fun Q => w fun i => lt (if i < 0 then -i else i) Q) :=
  evw_cb (eaw_one h) (RC.w fun i => rc_abs)
theorem d_abs {i : Int} (h : EvD K W te ρ (eI i)) : EvD K W (tCB (fun xs H Q => ∃ i : Int, xs = [V.int i] ∧ Q (V.int (if i < 0 then -i else i)) H) (tCons te tNil)) ρ (eI (if i < 0 then -i else i)) := ev_cbD (ea_consD h ea_nil) rc_abs
theorem d_intI {i : Int} (h : EvD K W te ρ (eI i)) : EvD K W (tCB rInt1 (tCons te tNil)) ρ (eI i) := ev_cbD (ea_consD h ea_nil) rc_int1
theorem d_intB {b : Bool} (h : EvD K W te ρ (eB b)) : EvD K W (tCB rInt1 (tCons te tNil)) ρ (eI (if b then (1 : Int) else 0)) := ev_cbD (ea_consD h ea_nil) rc_intB
theorem d_min2 {i j : Int} (ha : EvD K W ta ρ (eI i)) (hb : EvD K W tb ρ (eI j)) : EvD K W (tCB rMin2 (tCons ta (tCons tb tNil))) ρ (eI (if j < i then j else i)) := ev_cbD (ea_consD ha (ea_consD hb ea_nil)) fun D H vs o hv R r => by
  cases hv with
  | cons h1 h2 =>
    cases h2 with
    | cons h2 h3 =>
      cases h3
      cases h1
      cases h2
      exact ⟨i, j, rfl, r _ D H _ (.refl o) (.int _) rfl⟩
theorem d_max2 {i j : Int} (ha : EvD K W ta ρ (eI i)) (hb : EvD K W tb ρ (eI j)) : EvD K W (tCB rMax2 (tCons ta (tCons tb tNil))) ρ (eI (if j > i then j else i)) := ev_cbD (ea_consD ha (ea_consD hb ea_nil)) fun D H vs o hv R r => by
  cases hv with
  | cons h1 h2 =>
    cases h2 with
    | cons h2 h3 =>
      cases h3
      cases h1
      cases h2
      exact ⟨i, j, rfl, r _ D H _ (.refl o) (.int _) rfl⟩
theorem w_intI {w : (Int → Prop) → Prop} (h : EvW K W te ρ eI w) : EvW K W (tCB rInt1 (tCons te tNil)) ρ eI w := fun Q q D0 H0 D H σ en R r =>
  h Q q D0 H0 D H σ en _ fun v D1 H1 d s1 q1 ⟨i, z, p⟩ => by
    subst z
    cases q1
    exact Or.inl ⟨i, rfl, r _ D1 H1 _ s1 (.int _) ⟨i, rfl, p⟩⟩
theorem w_intB {w : (Bool → Prop) → Prop} (h : EvW K W te ρ eB w) : EvW K W (tCB rInt1 (tCons te tNil)) ρ eI (fun Q => w fun b => lt (if b then (1 : Int) else 0) Q) :=
  evw_cb (eaw_one h) (RC.w fun b => rc_intB)
theorem w_sumI {w : (List Int → Prop) → Prop} (h : EvLW K W te ρ eI w) : EvW K W (tCB (rSum K) (tCons te tNil)) ρ eI (fun Q => w fun xs => lt xs.sum Q) := fun Q q D0 H0 D H σ en R r =>
  h _ q D0 H0 D H σ en _ fun l vs D1 H1 ds s1 k1 q1 ⟨xs, z, p⟩ => by
    subst z
    have := q1.isInts xs
    subst this
    have o1 := s1.ok en.ok
    refine ⟨l, xs, rfl, k1 D1 H1 (.refl o1), r _ D1 H1 (.int xs.sum) s1 (.int _) ⟨_, rfl, p⟩⟩
theorem w_addS {wa wb : (Str → Prop) → Prop} (ha : EvW K W ta ρ eS wa) (hb : EvW K W tb ρ eS wb) : EvW K W (tOp rAddS ta tb) ρ eS (fun Q => wa fun a => wb fun b => addSW a b Q) := evw_op ha hb fun a b Q q D H x y o hx hy R r => rd_addS q.1 D H x y o hx hy R fun v D' H' d s dq z => r v D' H' d s dq ⟨_, z, q.2⟩
theorem w_lenS {w : (Str → Prop) → Prop} (h : EvW K W te ρ eS w) : EvW K W (tCB rLenS (tCons te tNil)) ρ eI (fun Q => w fun a => lenSW a Q) := evw_cb (eaw_one h) fun a Q q D H vs o hv R r => rc_lenS q.1 D H vs o hv R fun v D' H' d s dq z => r v D' H' d s dq ⟨_, z, q.2⟩
theorem w_tupRg {w : (Int → Prop) → Prop} (h : EvW K W te ρ eI w) : EvW K W (tTupRg (tRg1 te)) ρ (eTup eI) (fun Q => w fun n => rgW n Q) := fun Q q D0 H0 D H σ en R r =>
  h _ q D0 H0 D H σ en _ fun v D1 H1 d s1 q1 ⟨n, z, p⟩ => by
    subst z
    cases q1
    have o1 := s1.ok en.ok
    have hv := rgV_rng n
    refine ⟨n, rfl, rgOk_of p.1, fun t ht => ?_⟩
    rw [hv]
    exact r _ _ _ (eTup eI (rngG 0 n.toNat)) (s1.trans en.ok (Step.made o1 ht)) (.tup (SqT.of upd_same) (DqA.ints _)) ⟨_, rfl, p.2⟩
theorem w_lstRg {w : (Int → Prop) → Prop} (h : EvW K W te ρ eI w) : EvFW K W (tLstRg (tRg1 te)) ρ eI (fun Q => w fun n => rgW n Q) := fun Q q D0 H0 D H σ en R r =>
  h _ q D0 H0 D H σ en _ fun v D1 H1 d s1 q1 ⟨n, z, p⟩ => by
    subst z
    cases q1
    have o1 := s1.ok en.ok
    have hv := rgV_rng n
    refine ⟨n, rfl, rgOk_of p.1, fun t ht => ?_⟩
    rw [hv]
    exact r t _ D1 _ _ (s1.trans en.ok (.keptH o1 (same_new ht))) (fresh_of en.ok s1 ht) (o1.sub.free ht) upd_same (DqA.ints _) ⟨_, rfl, p.2⟩
theorem w_rep {w : (List α → Prop) → Prop} {v : (Int → Prop) → Prop} (h : EvFW K W te ρ e w) (h2 : EvW K W tb ρ eI v) : EvFW K W (tOp rRep te tb) ρ e (fun Q => w fun xs => v fun n => repW xs n Q) := fun Q q D0 H0 D H σ en R r =>
  h _ q D0 H0 D H σ en _ fun l vs D1 H1 ds s1 hn hd hl q1 ⟨xs, z, p⟩ => h2 _ p D0 H0 D1 H1 σ (en.step s1) _ fun u D2 H2 d2 s2 q2 ⟨n, z2, p2⟩ => by
    subst z
    subst z2
    cases q2
    have s12 := s1.trans en.ok s2
    have o2 := s12.ok en.ok
    have hw : ¬ W.adr l := fun hw => W.has H l en.st.inv hw hn
    refine ⟨l, n, vs, rfl, rfl, s2.off l _ hw hl, p2.1.1, p2.1.2.1, by rw [q1.len, List.length_map]; exact p2.1.2.2, fun p hp => ?_⟩
    refine r p _ D2 _ _ (s12.trans en.ok (.keptH o2 (same_new hp))) (fresh_of en.ok s12 hp) (o2.sub.free hp) upd_same ?_ ⟨_, rfl, p2.2⟩
    have q3 := q1.up s2.gro
    clear p2 q1 h2
    generalize n.toNat = m
    induction m with
    | zero => exact .nil
    | succ m ih =>
      rw [List.replicate_succ, List.replicate_succ, List.flatten_cons, List.flatten_cons, List.map_append]
      exact q3.app ih
/-! keywords in any order -/
theorem evw_callKw2 {α' : Type} {n m : Nat} {ea : α → List PyData} {er : β → PyData} {w : α → (β → Prop) → Prop} {v : (α' → Prop) → Prop} {ta : TA} {perm : List Nat} {Ek : L2.St → XK} {ek : α' → List PyData} (tr : α' → α) (h : EvAW K W ta ρ ek v) (hg : ∀ {D : Hp} (vs : List V) a, DqA K D vs (ek a) → DqA K D (gk perm vs) (ea (tr a))) (hm : ∀ a, (ek a).length = m) (hl : ∀ a, (ea a).length = n) :
    EvW K W (tKw m (gk perm) (spE K n ea er w) Ek ta) ρ er (fun Q => v fun a => w (tr a) Q) := fun Q q D0 H0 D H σ e R r =>
  (h _ q) D0 H0 D H σ e _ fun vs D1 H1 ds s1 q1 ⟨a, z, p⟩ => by
    have o1 := s1.ok e.ok
    rw [z] at q1
    refine ⟨by rw [q1.len]; exact hm a, D1, tr a, Q, o1.non, hg vs a q1, hl _, p, fun v D' H' b s2 q2 p2 => ?_⟩
    exact r v D' H' _ (s1.trans e.ok (.lift o1 s2)) q2 ⟨b, rfl, p2⟩
end
theorem Fun.kwG {K : PySem.W.Frag} {x qual : Str} {st : Stmt} {f : Addr} {fd : FuncData} {ps ks : List Str} (perm : List Nat) (F : Fun K x qual st f fd)
    (h : ∀ (kV doc pm : Value) (an : Option Addr) (cdv ct : Value) (us : List Value), us.length = ks.length → bindArgs (PySem.W.fnOf x qual (defArgs st) (defBody st) (defScope st) .none kV doc pm an cdv ct) ⟨[], ks.zip us⟩ = pure (ps.zip (gk perm us)))
    (hr : ∀ {zs : List V} {ws : List Value}, zs.length = ks.length → Vals zs ws → Vals (gk perm zs) (gk perm ws)) : KwB K fd ps ks (fun {α} => gk perm) := by
  obtain ⟨oc, od, kV, doc, pm, an, cdv, ct, osl, rfl, lk, hcd⟩ := F.ex
  exact ⟨fun s ws hl => BindsTo.of_eq (h kV doc pm an cdv ct ws hl), hr⟩
end Dl

/-! ## Sorted sets of texts -/
namespace Dl
open PySem PySem.Spec L2 PyProof.Rows
theorem EqE.inj {α : Type} {e : α → PyData} {n : Nat} (h : EqE e n) {a b : α} (z : e a = e b) : a = b := by
  refine (h.eqv a b).mp ?_
  rw [z]
  exact (h.eqv b b).mpr rfl
def leS (a b : Str) : Bool := !decide (b.cps.toList < a.cps.toList)
theorem ltL_irrefl (a : List Nat) : ¬ a < a := List.lt_irrefl a
theorem leS_trans (a b c : Str) (h1 : leS a b = true) (h2 : leS b c = true) : leS a c = true := by
  unfold leS at *
  simp only [Bool.not_eq_true', decide_eq_false_iff_not] at *
  exact fun h => h1 (List.lt_of_le_of_lt (List.not_lt.mp h2) h)
theorem leS_total (a b : Str) : (leS a b || leS b a) = true := by
  unfold leS
  by_cases h : b.cps.toList < a.cps.toList
  · have h2 : ¬ a.cps.toList < b.cps.toList := fun z => List.lt_asymm h z
    simp [h, h2]
  · simp [h]
/-- each once, ascending -/
def srtS (zs : List Str) : List Str := (once zs).mergeSort leS
theorem mem_once : ∀ (zs : List Str) (k : Str), k ∈ once zs ↔ k ∈ zs := by
  intro zs
  have : ∀ n, ∀ zs : List Str, zs.length = n → ∀ k, k ∈ once zs ↔ k ∈ zs := by
    intro n
    induction n with
    | zero =>
      intro zs h k
      rw [List.length_eq_zero_iff.mp h]
      rfl
    | succ n ih =>
      intro zs h k
      rcases List.eq_nil_or_concat zs with rfl | ⟨ys, y, rfl⟩
      · cases h
      · rw [List.concat_eq_append] at h ⊢
        have := ih ys (by simpa using h) k
        have hy := ih ys (by simpa using h) y
        rw [once_snoc]
        split
        · rw [this, List.mem_append, List.mem_singleton]
          exact ⟨Or.inl, fun z => z.elim id fun e => by rw [e]; exact hy.mp (by assumption)⟩
        · rw [List.mem_append, List.mem_append, this]
  exact this _ zs rfl
theorem nd_once : ∀ (zs : List Str), (once zs).Nodup := by
  have : ∀ n, ∀ zs : List Str, zs.length = n → (once zs).Nodup := by
    intro n
    induction n with
    | zero =>
      intro zs h
      rw [List.length_eq_zero_iff.mp h]
      exact .nil
    | succ n ih =>
      intro zs h
      rcases List.eq_nil_or_concat zs with rfl | ⟨ys, y, rfl⟩
      · cases h
      · rw [List.concat_eq_append] at h ⊢
        have := ih ys (by simpa using h)
        rw [once_snoc]
        split
        · exact this
        · rename_i hy
          rw [List.nodup_append]
          exact ⟨this, by simp, fun a ha b hb e => hy (by rw [List.mem_singleton] at hb; rw [← hb, ← e]; exact ha)⟩
  exact fun zs => this _ zs rfl
theorem mem_srtS {zs : List Str} {k : Str} : k ∈ srtS zs ↔ k ∈ zs := by
  unfold srtS
  rw [(List.mergeSort_perm _ _).mem_iff, mem_once]
theorem srtS_u (zs : List Str) : StrU (srtS zs) := by
  have h1 := List.pairwise_mergeSort (le := leS) leS_trans leS_total (once zs)
  have h2 : (srtS zs).Nodup := (List.mergeSort_perm (once zs) leS).nodup_iff.mpr (nd_once zs)
  refine List.Pairwise.imp₂ (R := fun a b => leS a b = true) (S := fun a b => a ≠ b) (fun a b h hn => ?_) h1 h2
  unfold StrA
  unfold leS at h
  simp only [Bool.not_eq_true', decide_eq_false_iff_not] at h
  rcases List.le_iff_lt_or_eq.mp (List.not_lt.mp h) with z | z
  · exact z
  · exact (hn (str_inj z)).elim
theorem srtS_eq {zs ns : List Str} (h : StrU ns) (m : ∀ k, k ∈ ns ↔ k ∈ zs) : ns = srtS zs := strU_eq h (srtS_u zs) fun k => (m k).trans mem_srtS.symm
def sortS2W (zs : List Str) (Q : List Str → Prop) : Prop := zs.length ≤ 900 ∧ Q (srtS zs)
section
variable {K : PySem.W.Frag} {W : Fx} {ρ : List Sk} {α β : Type} {te : TE} {wi wi1 : TI} {g g1 : TG} {vs vs1 : List Nat}
theorem w_sortS2 {w : World} {n m : Nat} {ea : α → PyData} {eb : β → PyData} (ie : EqE ea n) (ib : EqE eb m) {xs : List α} {inn : α → List β} {f : α → β → Str} {js js1 : List Nat} {Lx : α → List Sk} {Ly : α → β → List Sk}
    (hv : ∀ v ∈ vs, v < ρ.length) (hv1 : ∀ v ∈ vs1, v < ρ.length) (hI : EvI K W wi ρ (· = xs.map ea)) (hj : ∀ j ∈ js, j ∈ vs) (hj1 : ∀ j ∈ js1, j ∈ vs1) (hg : ∀ x, EvG K W g (wipeR ρ vs) (ea x) (Lx x) js) (hlen : ∀ x, (Lx x).length = ρ.length) (hno : ∀ x, noOwn (Lx x) = true)
    (hi : ∀ x, EvI K W wi1 (Lx x) (· = (inn x).map eb)) (hg1 : ∀ x y, EvG K W g1 (wipeR (Lx x) vs1) (eb y) (Ly x y) js1) (he : ∀ x y, EvD K W te (Ly x y) (.str (f x y))) :
    EvFW K W (tCB (rSortedS w) (tCons (DlS.tSc2 w wi g tYes wi1 g1 tYes te vs vs1) tNil)) ρ eS (fun Q => sortS2W (xs.flatMap fun x => (inn x).map (f x)) Q) := fun Q q => by
  classical
  let un (d : PyData) : Option α := if h : ∃ a, d = ea a then some h.choose else none
  let un2 (d : PyData) : Option β := if h : ∃ a, d = eb a then some h.choose else none
  have unE : ∀ a, un (ea a) = some a := fun a => by
    have h : ∃ b, ea a = ea b := ⟨a, rfl⟩
    show (if h : ∃ b, ea a = ea b then some h.choose else none) = _
    rw [dif_pos h]
    exact congrArg some (ie.inj h.choose_spec).symm
  have un2E : ∀ a, un2 (eb a) = some a := fun a => by
    have h : ∃ b, eb a = eb b := ⟨a, rfl⟩
    show (if h : ∃ b, eb a = eb b then some h.choose else none) = _
    rw [dif_pos h]
    exact congrArg some (ib.inj h.choose_spec).symm
  let inn2 (d : PyData) : List PyData := match un d with | some a => (inn a).map eb | none => []
  let f2 (d y : PyData) : Str := match un d, un2 y with | some a, some b => f a b | _, _ => Str.empty
  have inE : ∀ a, inn2 (ea a) = (inn a).map eb := fun a => by
    show (match un (ea a) with | some a => (inn a).map eb | none => []) = _
    rw [unE]
  have fE : ∀ a b, f2 (ea a) (eb b) = f a b := fun a b => by
    show (match un (ea a), un2 (eb b) with | some a, some b => f a b | _, _ => Str.empty) = _
    rw [unE, un2E]
  have fl : ((xs.map ea).flatMap fun d => (inn2 d).map (f2 d)) = xs.flatMap fun x => (inn x).map (f x) := by
    rw [List.flatMap_map]
    congr 1
    funext x
    show (inn2 (ea x)).map (f2 (ea x)) = _
    rw [inE, List.map_map]
    exact List.map_congr_left fun y _ => fE x y
  refine EvF.imp (evf_sortS2 (inn := inn2) (f := f2) (vs := vs) (vs1 := vs1) hv hv1 hI (by rw [fl]; exact q.1) ?_) ?_
  · intro d hd
    rw [List.mem_map] at hd
    obtain ⟨x, _, rfl⟩ := hd
    refine ⟨Lx x, js, hj, hlen x, hno x, hg x, by rw [inE]; exact hi x, fun y hy => ?_⟩
    rw [inE, List.mem_map] at hy
    obtain ⟨b, _, rfl⟩ := hy
    exact ⟨Ly x b, js1, hj1, hg1 x b, by rw [fE]; exact he x b⟩
  · rintro es ⟨ns, z, h1, _, h3⟩
    refine ⟨ns, z, ?_⟩
    rw [fl] at h3
    rw [srtS_eq h1 h3]
    exact q.2
theorem eaw_pure {ta : TA} {ea : α → List PyData} {a : α} (h : EvA K W ta ρ (· = ea a)) : EvAW K W ta ρ ea (fun Q => lt a Q) := fun Q q => h.imp fun d z => ⟨a, z, q⟩
end
end Dl

/-! ## Dicts -/
namespace Dl
open PySem PySem.Spec L2 PyProof.Rows
/-- how keys are told -/
structure KyI {κ κ' : Type} (f : κ → κ') : Prop where
  inj : ∀ a b, f a = f b → a = b
abbrev kI : Int → Key := Sum.inl
abbrev kS : Str → Key := Sum.inr
abbrev kK : Key → Key := fun k => k
abbrev kT1 {α : Type} (a : α → Key) : α → List Key := fun p => [a p]
abbrev kT2 {α β : Type} (a : α → Key) (b : β → Key) : α × β → List Key := fun p => [a p.1, b p.2]
abbrev kT3 {α β γ : Type} (a : α → Key) (b : β → Key) (c : γ → Key) : α × β × γ → List Key := fun p => [a p.1, b p.2.1, c p.2.2]
theorem KyI.int : KyI kI := ⟨fun _ _ h => Sum.inl.inj h⟩
theorem KyI.str : KyI kS := ⟨fun _ _ h => Sum.inr.inj h⟩
theorem KyI.key : KyI kK := ⟨fun _ _ h => h⟩
theorem KyI.t1 {α : Type} {a : α → Key} (h : KyI a) : KyI (kT1 a) := ⟨fun x y z => by injection z with z1; exact h.inj _ _ z1⟩
theorem KyI.t2 {α β : Type} {a : α → Key} {b : β → Key} (h : KyI a) (g : KyI b) : KyI (kT2 a b) := ⟨fun x y z => by
  injection z with z1 z2
  injection z2 with z2
  exact Prod.ext (h.inj _ _ z1) (g.inj _ _ z2)⟩
theorem KyI.t3 {α β γ : Type} {a : α → Key} {b : β → Key} {c : γ → Key} (h : KyI a) (g : KyI b) (i : KyI c) : KyI (kT3 a b c) := ⟨fun x y z => by
  injection z with z1 z2
  injection z2 with z2 z3
  injection z3 with z3
  exact Prod.ext (h.inj _ _ z1) (Prod.ext (g.inj _ _ z2) (i.inj _ _ z3))⟩
section
variable {κ β : Type} [DecidableEq κ]
def dget (ps : List (κ × β)) (k : κ) : Option β := (ps.find? fun p => decide (p.1 = k)).map (·.2)
def dput (ps : List (κ × β)) (k : κ) (b : β) : List (κ × β) := if (ps.any fun p => decide (p.1 = k)) = true then ps.map (fun p => if p.1 = k then (p.1, b) else p) else ps ++ [(k, b)]
def dgetW (ps : List (κ × β)) (k : κ) (Q : β → Prop) : Prop := ∃ b, dget ps k = some b ∧ Q b
def dputW (ps : List (κ × β)) (k : κ) (b : β) (Q : List (κ × β) → Prop) : Prop := ps.length < sizeLine ∧ Q (dput ps k b)
end
theorem keys_tup {K : PySem.W.Frag} {D : Hp} {ks : List Key} {v : V} (h : Dq K D v (tD ks)) : ∃ t, v = .ref t ∧ SqT K D t (ks.map kV) := by
  unfold tD at h
  cases h with
  | tup h1 h2 =>
    have := DqA.keysV ks h2
    subst this
    exact ⟨_, rfl, h1⟩
theorem eDicT_inj {ks ks' : List (List Key)} {ds ds' : List PyData} : ks.length = ds.length → ks'.length = ds'.length → (ks.map tD).zip ds = (ks'.map tD).zip ds' → ks = ks' ∧ ds = ds' := by
  have tinj : ∀ {a b : List Key}, tD a = tD b → a = b := fun {a b} h => by
    unfold tD at h
    injection h with h
    clear ks ks' ds ds'
    induction a generalizing b with
    | nil =>
      cases b with
      | nil => rfl
      | cons _ _ => cases h
    | cons x a ih =>
      cases b with
      | nil => cases h
      | cons y b =>
        injection h with h1 h2
        rw [kD_inj h1, ih h2]
  induction ks generalizing ks' ds ds' with
  | nil =>
    intro h1 h2 h
    cases ds with
    | cons _ _ => cases h1
    | nil =>
      cases ks' with
      | nil =>
        cases ds' with
        | nil => exact ⟨rfl, rfl⟩
        | cons _ _ => cases h2
      | cons _ _ =>
        cases ds' with
        | nil => cases h2
        | cons _ _ => cases h
  | cons k ks ih =>
    intro h1 h2 h
    cases ds with
    | nil => cases h1
    | cons d ds =>
      cases ks' with
      | nil => cases h
      | cons k' ks' =>
        cases ds' with
        | nil => cases h
        | cons d' ds' =>
          rw [List.map_cons, List.map_cons, List.zip_cons_cons, List.zip_cons_cons] at h
          injection h with h3 h4
          injection h3 with h5 h6
          obtain ⟨e1, e2⟩ := ih (by simpa using h1) (by simpa using h2) h4
          exact ⟨by rw [tinj h5, e1], by rw [h6, e2]⟩
/-- a dict of one's own is locked: it is data from now on -/
theorem st_frzOb {K : PySem.W.Frag} {W : Fx} {EX : Hp → Prop} {ρ : List Sk} {O : Out} {t r : TS} {i : Nat} {sh : Shp} {ds : List PyData} {d : PyData} (hρ : ρ[i]? = some (.ob sh ds)) (mu : ∀ xs, Mut (some (sh.ho xs)))
    (hd : ∀ (D : Hp) l xs od, D l = some (.frz od (sh.ho xs)) → DqA K D xs ds → Dq K D (.ref l) d) (k : StG K W EX (tSeq t r) (ρ.set i (.dat d)) O) : StG K W EX (tSeq (tFrz i t) r) ρ O := fun D0 H0 D H σ Dn e kn kb kc kr kx => by
  obtain ⟨o, q1, l, xs, q2, h3, h4, h5, h6, h7⟩ := e.slot i _ hρ
  subst q2
  refine ⟨l, _, q1, h6, mu xs, fun od => ?_⟩
  have hi : i < ρ.length := (List.getElem?_eq_some_iff.mp hρ).1
  have gr : Same D (upd D l (.frz od (sh.ho xs))) := same_new h3
  have e2 : Env K W D0 H0 (upd D l (.frz od (sh.ho xs))) (upd H l (.frz od (sh.ho xs))) σ (ρ.set i (.dat d)) := by
    refine ⟨e.ok0, ⟨e.st.gro.trans gr, fun b x q => ?_, fun b x hb q => ?_, fun p h1 h2 h2' => ?_, ?_⟩, fun j sk hj => ?_, fun a b m sh' th es fs h1 h2 h3' h4' => ?_⟩
    · by_cases hb : b = l
      · subst hb
        rw [upd_same] at q ⊢
        exact q
      · rw [upd_ne hb] at q ⊢
        exact e.st.sub b x q
    · rw [upd_ne (fun z => by rw [z, h4] at q; cases q)]
      exact e.st.off b x hb q
    · rw [upd_ne (fun z => h2 (by rw [z]; exact h4))]
      exact e.st.new p h1 h2 h2'
    · refine W.keep H _ e.st.inv fun b x hb q => ?_
      rw [upd_ne (fun z => h5 (by rw [← z]; exact hb))]
      exact q
    · by_cases hij : i = j
      · subst hij
        rw [List.getElem?_set_self hi] at hj
        cases hj
        exact ⟨_, q1, .ref l, rfl, hd _ l xs od upd_same (h7.up gr)⟩
      · rw [List.getElem?_set_ne hij] at hj
        obtain ⟨o, p1, p2⟩ := e.slot j sk hj
        refine ⟨o, p1, ?_⟩
        cases sk with
        | any => trivial
        | rt => exact p2
        | dat d =>
          obtain ⟨v, z, q⟩ := p2
          exact ⟨v, z, q.up gr⟩
        | ob sh2 es =>
          obtain ⟨m, ys, e1, r1, r2, r3, r4, r5⟩ := p2
          subst e1
          have hm : m ≠ l := fun z => hij (e.dist i j l _ sh2 ds es hρ hj q1 (by rw [← z]; exact p1))
          exact ⟨m, ys, rfl, by rw [upd_ne hm]; exact r1, r2, r3, by rw [upd_ne hm]; exact r4, r5.up gr⟩
        | dd f =>
          obtain ⟨a, kvs, z, r1, r2⟩ := p2
          exact ⟨a, kvs, z, same_rd gr r1, fun k => (r2 k).imp id fun ⟨v, d, c1, c2, c3⟩ => ⟨v, d, c1, c2, c3.up gr⟩⟩
    · have own_of : ∀ (j : Nat) sh2 fs, (ρ.set i (.dat d))[j]? = some (.ob sh2 fs) → ρ[j]? = some (.ob sh2 fs) := fun j sh2 fs h => by
        by_cases hij : i = j
        · subst hij
          rw [List.getElem?_set_self hi] at h
          cases h
        · rw [List.getElem?_set_ne hij] at h
          exact h
      exact e.dist a b m sh' th es fs (own_of a _ _ h1) (own_of b _ _ h2) h3' h4'
  exact k D0 H0 _ _ σ Dn e2 (fun a b c x g2 => kn a b c x (gr.trans g2)) (fun a b c x g2 => kb a b c x (gr.trans g2)) (fun a b c x g2 => kc a b c x (gr.trans g2)) kr kx
section
variable {K : PySem.W.Frag} {W : Fx} {EX : Hp → Prop} {ρ : List Sk} {κ κ' α β γ : Type} {ta tb tk tx te : TE} {tr : TS} {O : Out} {e : β → PyData}
variable [DecidableEq κ] [DecidableEq κ']
/-! look-ups in the abstract heap and in the typed list -/
theorem valV_typed {D : Hp} {f : κ → κ'} (fi : KyI f) (k : κ) : ∀ (ps : List (κ × β)) (xs : List V), DqA K D xs (ps.map fun p => e p.2) →
    (valV ((ps.map fun p => f p.1).zip xs) (f k) = none ∧ dget ps k = none) ∨ ∃ v b, valV ((ps.map fun p => f p.1).zip xs) (f k) = some v ∧ dget ps k = some b ∧ Dq K D v (e b)
  | [], _, _ => .inl ⟨rfl, rfl⟩
  | p :: ps, _, .cons (v := x) (vs := xs) h1 h2 => by
    by_cases z : p.1 = k
    · refine .inr ⟨x, p.2, ?_, ?_, h1⟩
      · rw [List.map_cons, List.zip_cons_cons, valV_pos (p := (f p.1, x)) (by rw [z])]
      · unfold dget
        rw [List.find?_cons_of_pos (by simpa using z)]
        rfl
    · have z2 : dget (p :: ps) k = dget ps k := by
        unfold dget
        rw [List.find?_cons_of_neg (by simpa using z)]
      rw [List.map_cons, List.zip_cons_cons, valV_neg (p := (f p.1, x)) (fun w => z (fi.inj _ _ w)), z2]
      exact valV_typed fi k ps xs h2
theorem put_typed {D : Hp} {f : κ → κ'} (fi : KyI f) {k : κ} {v : V} {b : β} (q : Dq K D v (e b)) {ps : List (κ × β)} {xs : List V} (h : DqA K D xs (ps.map fun p => e p.2)) :
    ∃ ys, putK ((ps.map fun p => f p.1).zip xs) (f k) v = ((dput ps k b).map fun p => f p.1).zip ys ∧ DqA K D ys ((dput ps k b).map fun p => e p.2) := by
  have an : ∀ (ps : List (κ × β)) (xs : List V), DqA K D xs (ps.map fun p => e p.2) → (((ps.map fun p => f p.1).zip xs).any fun kv => decide (kv.1 = f k)) = (ps.any fun p => decide (p.1 = k)) := by
    intro ps
    induction ps with
    | nil => intro xs _; rfl
    | cons p ps ih =>
      intro xs h
      cases h with
      | cons h1 h2 =>
        rw [List.map_cons, List.zip_cons_cons, List.any_cons, List.any_cons, ih _ h2]
        congr 1
        exact decide_eq_decide.mpr ⟨fi.inj _ _, fun z => by rw [z]⟩
  have mp : ∀ (ps : List (κ × β)) (xs : List V), DqA K D xs (ps.map fun p => e p.2) → ∃ ys, ((ps.map fun p => f p.1).zip xs).map (fun kv => if kv.1 = f k then (kv.1, v) else kv) = ((ps.map fun p => if p.1 = k then (p.1, b) else p).map fun p => f p.1).zip ys ∧ DqA K D ys ((ps.map fun p => if p.1 = k then (p.1, b) else p).map fun p => e p.2) := by
    intro ps
    induction ps with
    | nil => intro xs h; exact ⟨[], rfl, .nil⟩
    | cons p ps ih =>
      intro xs h
      cases h with
      | @cons x xs _ _ h1 h2 =>
        obtain ⟨ys, z1, z2⟩ := ih xs h2
        by_cases z : p.1 = k
        · refine ⟨v :: ys, ?_, ?_⟩
          · rw [List.map_cons, List.zip_cons_cons, List.map_cons, z1, List.map_cons, List.map_cons, List.zip_cons_cons, if_pos (by rw [z]), if_pos z]
          · rw [List.map_cons, List.map_cons, if_pos z]
            exact .cons q z2
        · refine ⟨x :: ys, ?_, ?_⟩
          · rw [List.map_cons, List.zip_cons_cons, List.map_cons, z1, List.map_cons, List.map_cons, List.zip_cons_cons, if_neg (fun w => z (fi.inj _ _ w)), if_neg z]
          · rw [List.map_cons, List.map_cons, if_neg z]
            exact .cons h1 z2
  unfold putK dput
  rw [an ps xs h]
  split
  · exact mp ps xs h
  · refine ⟨xs ++ [v], ?_, ?_⟩
    · rw [List.map_append, List.zip_append (by rw [h.len, List.length_map, List.length_map])]
      rfl
    · rw [List.map_append]
      exact h.app (.cons q .nil)
end

section
variable {K : PySem.W.Frag} {W : Fx} {EX : Hp → Prop} {ρ : List Sk} {κ α β γ : Type} {ta tb tk tx te : TE} {tr : TS} {O : Out} {e : β → PyData}
variable [DecidableEq κ]
/-- a dict as data -/
def eDicK {κ β : Type} (f : κ → Key) (e : β → PyData) : List (κ × β) → PyData := fun ps => .dict (((ps.map fun p => f p.1).map kD).zip (ps.map fun p => e p.2))
abbrev Sk.dK {κ β : Type} (f : κ → Key) (e : β → PyData) (ps : List (κ × β)) : Sk := .ob (.dK (ps.map fun p => f p.1)) (ps.map fun p => e p.2)
theorem dicK_at {D : Hp} {v : V} {f : κ → Key} {ps : List (κ × β)} (h : Dq K D v (eDicK f e ps)) : ∃ (a : Addr) (xs : List V), v = .ref a ∧ FzK D a ((ps.map fun p => f p.1).zip xs) ∧ DqA K D xs (ps.map fun p => e p.2) := by
  unfold eDicK at h
  have hl : (ps.map fun p => f p.1).length = (ps.map fun p => e p.2).length := by rw [List.length_map, List.length_map]
  rcases Dq.dictI h with ⟨a, ks', xs, ds', e1, h1, h2, h3, h4⟩ | ⟨a, ks', xs, ds', e1, h1, h2, h3, h4⟩
  · obtain ⟨e2, e3⟩ := dD_inj hl (by rw [h2, h3.len]) h4
    subst e2
    rw [e3]
    exact ⟨a, xs, e1, h1, h3⟩
  · cases ps with
    | nil =>
      have hz : ((ks'.map tD).zip ds') = [] := h4.symm
      cases ks' with
      | nil =>
        have hx : xs = [] := List.length_eq_zero_iff.mp h2.symm
        subst hx
        exact ⟨a, [], e1, FzT.k0 h1, .nil⟩
      | cons k ks' =>
        cases ds' with
        | nil =>
          rw [h3.len] at h2
          cases h2
        | cons d ds' => cases hz
    | cons p ps =>
      cases ks' with
      | nil => cases h4
      | cons k' ks' =>
        cases ds' with
        | nil => cases h4
        | cons d' ds' =>
          rw [List.map_cons, List.map_cons, List.map_cons, List.map_cons, List.zip_cons_cons, List.zip_cons_cons] at h4
          injection h4 with h5 _
          injection h5 with h6 _
          generalize f p.1 = fk at h6
          cases fk <;> cases h6
theorem frzK_ok {D : Hp} {l : Addr} {xs : List V} {od : Obj} {f : κ → Key} {ps : List (κ × β)} (h : D l = some (.frz od ((Shp.dK (ps.map fun p => f p.1)).ho xs))) (q : DqA K D xs (ps.map fun p => e p.2)) : Dq K D (.ref l) (eDicK f e ps) :=
  .dic (Or.inl ⟨od, h⟩) (by rw [q.len, List.length_map, List.length_map]) q
theorem st_frzK {t : TS} {i : Nat} {f : κ → Key} {ps : List (κ × β)} (hρ : ρ[i]? = some (Sk.dK f e ps)) (k : StG K W EX (tSeq t tr) (ρ.set i (.dat (eDicK f e ps))) O) : StG K W EX (tSeq (tFrz i t) tr) ρ O :=
  st_frzOb hρ (fun _ => trivial) (fun D l xs od h q => frzK_ok h q) k
/-- a dict that is read -/
def EvDK (K : PySem.W.Frag) (W : Fx) (te : TE) (ρ : List Sk) (f : κ → Key) (e : β → PyData) (w : (List (κ × β) → Prop) → Prop) : Prop := ∀ P, w P → ∀ D0 H0 D H σ, Env K W D0 H0 D H σ ρ → ∀ R : VK,
  (∀ a xs D' H' ps, Step W D H D' H' → (∀ D2 H2, Step W D' H' D2 H2 → RdK H2 a ((ps.map fun p => f p.1).zip xs)) → DqA K D' xs (ps.map fun p => e p.2) → P ps → R (.ref a) H') → te σ H R
theorem EvW.dK {f : κ → Key} {w : (List (κ × β) → Prop) → Prop} (h : EvW K W te ρ (eDicK f e) w) : EvDK K W te ρ f e w := fun P p D0 H0 D H σ en R r =>
  h P p D0 H0 D H σ en R fun v D1 H1 d s1 q1 ⟨ps, z, pp⟩ => by
    subst z
    obtain ⟨a, xs, rfl, g1, g2⟩ := dicK_at q1
    exact r a xs D1 H1 ps s1 (fun D2 H2 s2 => same_rdK (s2.gro.trans s2.sub) g1.rd) g2 pp
theorem dK_own {i : Nat} {f : κ → Key} {ps : List (κ × β)} (h : ρ[i]? = some (Sk.dK f e ps)) : EvDK K W (tVar i) ρ f e (fun Q => lt ps Q) := fun P p D0 H0 D H σ en R r => by
  obtain ⟨o, h1, l, vs, h2, h3, h4, h5, h6, h7⟩ := en.slot i _ h
  subst h2
  exact ⟨_, h1, r l vs D H ps (.refl en.ok) (fun D2 H2 s => Or.inl (Or.inl (s.off l _ h5 h6))) h7 p⟩
/-- a key -/
def EvKK (K : PySem.W.Frag) (W : Fx) (te : TE) (ρ : List Sk) (f : κ → Key) (w : (κ → Prop) → Prop) : Prop := EvW K W te ρ (fun k => kD (f k)) w
theorem keyK_get {D H : Hp} (g : Same D H) {a : Addr} {v : V} {f : κ → Key} {k : κ} {kvs : List (Key × V)} (h : RdK H a kvs) (q : Dq K D v (kD (f k))) {r : Option V} (z : r = valV kvs (f k)) : DGetG K H a v r := by
  exact .inl ⟨kvs, f k, h, kD_dq q, z⟩
theorem w_dgetK {f : κ → Key} (fi : KyI f) {w : (List (κ × β) → Prop) → Prop} {v : (κ → Prop) → Prop} (h : EvDK K W ta ρ f e w) (hk : EvKK K W tk ρ f v) : EvW K W (tDGetG K ta tk) ρ e (fun Q => w fun d => v fun k => dgetW d k Q) := fun Q q D0 H0 D H σ en R r =>
  h _ q D0 H0 D H σ en _ fun a xs D1 H1 ps s1 k1 q1 p1 => hk _ p1 D0 H0 D1 H1 σ (en.step s1) _ fun y D2 H2 d2 s2 q2 ⟨k, z2, b, z3, p3⟩ => by
    rw [z2] at q2
    have o2 := (s1.trans en.ok s2).ok en.ok
    rcases valV_typed fi k ps xs (q1.up s2.gro) with ⟨g1, g2⟩ | ⟨v, b', g1, g2, g3⟩
    · rw [g2] at z3
      cases z3
    · rw [g2] at z3
      cases z3
      exact ⟨a, v, rfl, keyK_get o2.sub (k1 D2 H2 s2) q2 g1.symm, r v D2 H2 _ (s1.trans en.ok s2) g3 ⟨b, rfl, p3⟩⟩
theorem w_dinK {f : κ → Key} (fi : KyI f) {w : (List (κ × β) → Prop) → Prop} {v : (κ → Prop) → Prop} (hk : EvKK K W tk ρ f v) (h : EvDK K W ta ρ f e w) : EvW K W (tDInG K tk ta) ρ eB (fun Q => v fun k => w fun d => lt (dget d k).isSome Q) := fun Q q D0 H0 D H σ en R r =>
  hk _ q D0 H0 D H σ en _ fun y D1 H1 d1 s1 q1 ⟨k, z1, p1⟩ => h _ p1 D0 H0 D1 H1 σ (en.step s1) _ fun a xs D2 H2 ps s2 k2 q2 p2 => by
    rw [z1] at q1
    have o2 := (s1.trans en.ok s2).ok en.ok
    refine ⟨a, _, rfl, keyK_get o2.sub (k2 D2 H2 (.refl o2)) (q1.up s2.gro) rfl, r _ D2 H2 (.bool (dget ps k).isSome) (s1.trans en.ok s2) ?_ ⟨_, rfl, p2⟩⟩
    rcases valV_typed fi k ps xs q2 with ⟨g1, g2⟩ | ⟨v, b', g1, g2, g3⟩
    · rw [g1, g2]
      exact .bl _
    · rw [g1, g2]
      exact .bl _
theorem w_dninK {f : κ → Key} (fi : KyI f) {w : (List (κ × β) → Prop) → Prop} {v : (κ → Prop) → Prop} (hk : EvKK K W tk ρ f v) (h : EvDK K W ta ρ f e w) : EvW K W (tDNotInG K tk ta) ρ eB (fun Q => v fun k => w fun d => lt (!(dget d k).isSome) Q) := fun Q q D0 H0 D H σ en R r =>
  hk _ q D0 H0 D H σ en _ fun y D1 H1 d1 s1 q1 ⟨k, z1, p1⟩ => h _ p1 D0 H0 D1 H1 σ (en.step s1) _ fun a xs D2 H2 ps s2 k2 q2 p2 => by
    rw [z1] at q1
    have o2 := (s1.trans en.ok s2).ok en.ok
    refine ⟨a, _, rfl, keyK_get o2.sub (k2 D2 H2 (.refl o2)) (q1.up s2.gro) rfl, r _ D2 H2 (.bool (!(dget ps k).isSome)) (s1.trans en.ok s2) ?_ ⟨_, rfl, p2⟩⟩
    rcases valV_typed fi k ps xs q2 with ⟨g1, g2⟩ | ⟨v, b', g1, g2, g3⟩
    · rw [g1, g2]
      exact .bl _
    · rw [g1, g2]
      exact .bl _
theorem w_dget2K {f : κ → Key} (fi : KyI f) {w : (List (κ × β) → Prop) → Prop} {v : (κ → Prop) → Prop} {u : (β → Prop) → Prop} (h : EvDK K W ta ρ f e w) (hk : EvKK K W tk ρ f v) (hx : EvW K W tx ρ e u) : EvW K W (tDGetG2 K ta tk tx) ρ e (fun Q => w fun d => v fun k => u fun x => lt ((dget d k).getD x) Q) := fun Q q D0 H0 D H σ en R r =>
  h _ q D0 H0 D H σ en _ fun a xs D1 H1 ps s1 k1 q1 p1 => by
    have e1 := en.step s1
    have o1 := s1.ok en.ok
    refine ⟨a, rfl, .inl ⟨_, k1 D1 H1 (.refl o1)⟩, ?_⟩
    refine hk _ p1 D0 H0 D1 H1 σ e1 _ fun y D2 H2 d2 s2 q2 ⟨k, z2, p2⟩ => hx _ p2 D0 H0 D2 H2 σ (e1.step s2) _ fun z D3 H3 d3 s3 q3 ⟨x, z3, p3⟩ => ?_
    rw [z2] at q2
    have s23 := s2.trans o1 s3
    have o3 := s23.ok o1
    refine ⟨_, keyK_get o3.sub (k1 D3 H3 s23) (q2.up s3.gro) rfl, ?_⟩
    rcases valV_typed fi k ps xs (q1.up s23.gro) with ⟨g1, g2⟩ | ⟨v, b', g1, g2, g3⟩
    · rw [g1]
      exact r _ D3 H3 _ (s1.trans en.ok s23) q3 ⟨x, z3, by rw [g2] at p3; exact p3⟩
    · rw [g1]
      exact r _ D3 H3 _ (s1.trans en.ok s23) g3 ⟨b', rfl, by rw [g2] at p3; exact p3⟩
/-- {} -/
theorem st_dnewK {i : Nat} {f : κ → Key} {Q : List (κ × β) → Prop} (hi : i < ρ.length) (q : lt ([] : List (κ × β)) Q) (k : ∀ ps, Q ps → StG K W EX tr (ρ.set i (Sk.dK f e ps)) O) : StG K W EX (tSeq (tAsg tDNewK (gName i)) tr) ρ O :=
  st_setO (s := .dK []) (PA := (· = [])) hi (fun D0 H0 D H σ en R r p hp => by
    exact r p [] D _ [] (.keptH en.ok (same_new hp)) hp (en.ok.sub.free hp) upd_same .nil rfl) fun ds z => by
    subst z
    exact k [] q
theorem em_dicK {f : κ → Key} {ta : TA} {v : (γ → Prop) → Prop} {ks : γ → List Sk} (hr : EvM K W ta ρ ks v) : EvM K W (tCons tDNewK ta) ρ (fun p : List (κ × β) × γ => Sk.dK f e p.1 :: ks p.2) (fun Q => lt ([] : List (κ × β)) fun a => v fun b => Q (a, b)) := fun P p D0 H0 D H σ en Q q =>
  fun t ht => hr _ p D0 H0 D _ σ (en.step (.keptH en.ok (same_new ht))) _ fun vs D2 H2 b s2 m p2 => by
    have s1 : Step W D H D (upd H t (.dK [])) := .keptH en.ok (same_new ht)
    have hw : ¬ W.adr t := fun hw => W.has H t en.st.inv hw ht
    have hl' : (upd H t (.dK [])) t ≠ none := by rw [upd_same]; exact fun z => nomatch z
    refine q _ D2 H2 ([], b) (s1.trans en.ok s2) (.own (s := .dK []) ht (s2.new t (en.ok.sub.free ht) hl' (by rw [upd_same]; exact fun _ z => nomatch z)) (s2.off t _ hw upd_same) .nil (m.apart hl') (m.mono (fresh_mono en.ok s1))) p2
/-- d[k] = v -/
theorem st_dputK {i : Nat} {f : κ → Key} (fi : KyI f) {ps : List (κ × β)} {w : (β → Prop) → Prop} {v : (κ → Prop) → Prop} {Q : List (κ × β) → Prop} (hρ : ρ[i]? = some (Sk.dK f e ps)) (h : EvW K W te ρ e w) (hk : EvKK K W tk ρ f v) (q : w fun b => v fun k => dputW ps k b Q)
    (kk : ∀ qs, Q qs → StG K W EX tr (ρ.set i (Sk.dK f e qs)) O) : StG K W EX (tSeq (tAsg te (gSub (tVar i) tk rSetD)) tr) ρ O := fun D0 H0 D H σ Dn en kn kb kc kr kx =>
  h _ q D0 H0 D H σ en _ fun u D1 H1 d s1 q1 ⟨b, z1, p1⟩ => by
    rw [z1] at q1
    have e1 := en.step s1
    obtain ⟨o, q0, l, xs, q2, q3, q4, q5, q6, q7⟩ := e1.slot i _ hρ
    subst q2
    refine ⟨.ref l, q0, ?_⟩
    refine hk _ p1 D0 H0 D1 H1 σ e1 _ fun y D2 H2 d2 s2 q2 ⟨k, z2, p2⟩ => ?_
    rw [z2] at q2
    have e2 := e1.step s2
    obtain ⟨o', r1, l', xs', r2, r3, r4, r5, r6, r7⟩ := e2.slot i _ hρ
    rw [q0] at r1
    cases r1
    cases r2
    obtain ⟨ys, g1, g2⟩ := put_typed fi (k := k) (q1.up s2.gro) r7
    have g := s1.gro.trans s2.gro
    refine ⟨l, _, rfl, Or.inl ⟨_, f k, r6, kD_dq q2, ?_, rfl⟩, ?_⟩
    · rw [List.length_zip, List.length_map, r7.len, List.length_map]
      have := p2.1
      omega
    rw [g1]
    exact kk _ p2.2 D0 H0 D2 _ σ Dn (e2.writeO (t := .dK ((dput ps k b).map fun p => f p.1)) hρ q0 g2) (fun a b c x g2 => kn a b c x (g.trans g2)) (fun a b c x g2 => kb a b c x (g.trans g2)) (fun a b c x g2 => kc a b c x (g.trans g2)) kr kx
end

section
variable {K : PySem.W.Frag} {W : Fx} {EX : Hp → Prop} {ρ : List Sk} {κ α β γ : Type} {ta tb tk tx te : TE} {tks : TA} {tr : TS} {O : Out} {e : β → PyData}
variable [DecidableEq κ]
/-- a dict as data -/
def eDicT {κ β : Type} (f : κ → (List Key)) (e : β → PyData) : List (κ × β) → PyData := fun ps => .dict (((ps.map fun p => f p.1).map tD).zip (ps.map fun p => e p.2))
abbrev Sk.dT {κ β : Type} (f : κ → (List Key)) (e : β → PyData) (ps : List (κ × β)) : Sk := .ob (.dT (ps.map fun p => f p.1)) (ps.map fun p => e p.2)
theorem dicT_at {D : Hp} {v : V} {f : κ → (List Key)} {ps : List (κ × β)} (h : Dq K D v (eDicT f e ps)) : ∃ (a : Addr) (xs : List V), v = .ref a ∧ FzT D a ((ps.map fun p => f p.1).zip xs) ∧ DqA K D xs (ps.map fun p => e p.2) := by
  unfold eDicT at h
  have hl : (ps.map fun p => f p.1).length = (ps.map fun p => e p.2).length := by rw [List.length_map, List.length_map]
  rcases Dq.dictI h with ⟨a, ks', xs, ds', e1, h1, h2, h3, h4⟩ | ⟨a, ks', xs, ds', e1, h1, h2, h3, h4⟩
  · cases ps with
    | nil =>
      have hz : ((ks'.map kD).zip ds') = [] := h4.symm
      cases ks' with
      | nil =>
        have hx : xs = [] := List.length_eq_zero_iff.mp h2.symm
        subst hx
        exact ⟨a, [], e1, FzK.t0 h1, .nil⟩
      | cons k ks' =>
        cases ds' with
        | nil =>
          rw [h3.len] at h2
          cases h2
        | cons d ds' => cases hz
    | cons p ps =>
      cases ks' with
      | nil => cases h4
      | cons k' ks' =>
        cases ds' with
        | nil => cases h4
        | cons d' ds' =>
          rw [List.map_cons, List.map_cons, List.map_cons, List.map_cons, List.zip_cons_cons, List.zip_cons_cons] at h4
          injection h4 with h5 _
          injection h5 with h6 _
          cases k' <;> cases h6
  · obtain ⟨e2, e3⟩ := eDicT_inj hl (by rw [h2, h3.len]) h4
    subst e2
    rw [e3]
    exact ⟨a, xs, e1, h1, h3⟩
theorem frzT_ok {D : Hp} {l : Addr} {xs : List V} {od : Obj} {f : κ → (List Key)} {ps : List (κ × β)} (h : D l = some (.frz od ((Shp.dT (ps.map fun p => f p.1)).ho xs))) (q : DqA K D xs (ps.map fun p => e p.2)) : Dq K D (.ref l) (eDicT f e ps) :=
  .dicT (Or.inl ⟨od, h⟩) (by rw [q.len, List.length_map, List.length_map]) q
theorem st_frzT {t : TS} {i : Nat} {f : κ → (List Key)} {ps : List (κ × β)} (hρ : ρ[i]? = some (Sk.dT f e ps)) (k : StG K W EX (tSeq t tr) (ρ.set i (.dat (eDicT f e ps))) O) : StG K W EX (tSeq (tFrz i t) tr) ρ O :=
  st_frzOb hρ (fun _ => trivial) (fun D l xs od h q => frzT_ok h q) k
/-- a dict that is read -/
def EvDT (K : PySem.W.Frag) (W : Fx) (te : TE) (ρ : List Sk) (f : κ → (List Key)) (e : β → PyData) (w : (List (κ × β) → Prop) → Prop) : Prop := ∀ P, w P → ∀ D0 H0 D H σ, Env K W D0 H0 D H σ ρ → ∀ R : VK,
  (∀ a xs D' H' ps, Step W D H D' H' → (∀ D2 H2, Step W D' H' D2 H2 → RdT H2 a ((ps.map fun p => f p.1).zip xs)) → DqA K D' xs (ps.map fun p => e p.2) → P ps → R (.ref a) H') → te σ H R
theorem EvW.dT {f : κ → (List Key)} {w : (List (κ × β) → Prop) → Prop} (h : EvW K W te ρ (eDicT f e) w) : EvDT K W te ρ f e w := fun P p D0 H0 D H σ en R r =>
  h P p D0 H0 D H σ en R fun v D1 H1 d s1 q1 ⟨ps, z, pp⟩ => by
    subst z
    obtain ⟨a, xs, rfl, g1, g2⟩ := dicT_at q1
    exact r a xs D1 H1 ps s1 (fun D2 H2 s2 => same_rdT (s2.gro.trans s2.sub) g1.rd) g2 pp
theorem dT_own {i : Nat} {f : κ → (List Key)} {ps : List (κ × β)} (h : ρ[i]? = some (Sk.dT f e ps)) : EvDT K W (tVar i) ρ f e (fun Q => lt ps Q) := fun P p D0 H0 D H σ en R r => by
  obtain ⟨o, h1, l, vs, h2, h3, h4, h5, h6, h7⟩ := en.slot i _ h
  subst h2
  exact ⟨_, h1, r l vs D H ps (.refl en.ok) (fun D2 H2 s => Or.inl (Or.inl (s.off l _ h5 h6))) h7 p⟩
/-- a key -/
def EvKT (K : PySem.W.Frag) (W : Fx) (te : TE) (ρ : List Sk) (f : κ → (List Key)) (w : (κ → Prop) → Prop) : Prop := EvW K W te ρ (fun k => tD (f k)) w
theorem keyT_get {D H : Hp} (g : Same D H) {a : Addr} {v : V} {f : κ → (List Key)} {k : κ} {kvs : List ((List Key) × V)} (h : RdT H a kvs) (q : Dq K D v (tD (f k))) {r : Option V} (z : r = valV kvs (f k)) : DGetG K H a v r := by
  obtain ⟨t, rfl, g1⟩ := keys_tup q
  exact .inr ⟨kvs, f k, t, h, rfl, same_t g g1, z⟩
theorem w_dgetT {f : κ → (List Key)} (fi : KyI f) {w : (List (κ × β) → Prop) → Prop} {v : (κ → Prop) → Prop} (h : EvDT K W ta ρ f e w) (hk : EvKT K W tk ρ f v) : EvW K W (tDGetG K ta tk) ρ e (fun Q => w fun d => v fun k => dgetW d k Q) := fun Q q D0 H0 D H σ en R r =>
  h _ q D0 H0 D H σ en _ fun a xs D1 H1 ps s1 k1 q1 p1 => hk _ p1 D0 H0 D1 H1 σ (en.step s1) _ fun y D2 H2 d2 s2 q2 ⟨k, z2, b, z3, p3⟩ => by
    rw [z2] at q2
    have o2 := (s1.trans en.ok s2).ok en.ok
    rcases valV_typed fi k ps xs (q1.up s2.gro) with ⟨g1, g2⟩ | ⟨v, b', g1, g2, g3⟩
    · rw [g2] at z3
      cases z3
    · rw [g2] at z3
      cases z3
      exact ⟨a, v, rfl, keyT_get o2.sub (k1 D2 H2 s2) q2 g1.symm, r v D2 H2 _ (s1.trans en.ok s2) g3 ⟨b, rfl, p3⟩⟩
theorem w_dinT {f : κ → (List Key)} (fi : KyI f) {w : (List (κ × β) → Prop) → Prop} {v : (κ → Prop) → Prop} (hk : EvKT K W tk ρ f v) (h : EvDT K W ta ρ f e w) : EvW K W (tDInG K tk ta) ρ eB (fun Q => v fun k => w fun d => lt (dget d k).isSome Q) := fun Q q D0 H0 D H σ en R r =>
  hk _ q D0 H0 D H σ en _ fun y D1 H1 d1 s1 q1 ⟨k, z1, p1⟩ => h _ p1 D0 H0 D1 H1 σ (en.step s1) _ fun a xs D2 H2 ps s2 k2 q2 p2 => by
    rw [z1] at q1
    have o2 := (s1.trans en.ok s2).ok en.ok
    refine ⟨a, _, rfl, keyT_get o2.sub (k2 D2 H2 (.refl o2)) (q1.up s2.gro) rfl, r _ D2 H2 (.bool (dget ps k).isSome) (s1.trans en.ok s2) ?_ ⟨_, rfl, p2⟩⟩
    rcases valV_typed fi k ps xs q2 with ⟨g1, g2⟩ | ⟨v, b', g1, g2, g3⟩
    · rw [g1, g2]
      exact .bl _
    · rw [g1, g2]
      exact .bl _
theorem w_dninT {f : κ → (List Key)} (fi : KyI f) {w : (List (κ × β) → Prop) → Prop} {v : (κ → Prop) → Prop} (hk : EvKT K W tk ρ f v) (h : EvDT K W ta ρ f e w) : EvW K W (tDNotInG K tk ta) ρ eB (fun Q => v fun k => w fun d => lt (!(dget d k).isSome) Q) := fun Q q D0 H0 D H σ en R r =>
  hk _ q D0 H0 D H σ en _ fun y D1 H1 d1 s1 q1 ⟨k, z1, p1⟩ => h _ p1 D0 H0 D1 H1 σ (en.step s1) _ fun a xs D2 H2 ps s2 k2 q2 p2 => by
    rw [z1] at q1
    have o2 := (s1.trans en.ok s2).ok en.ok
    refine ⟨a, _, rfl, keyT_get o2.sub (k2 D2 H2 (.refl o2)) (q1.up s2.gro) rfl, r _ D2 H2 (.bool (!(dget ps k).isSome)) (s1.trans en.ok s2) ?_ ⟨_, rfl, p2⟩⟩
    rcases valV_typed fi k ps xs q2 with ⟨g1, g2⟩ | ⟨v, b', g1, g2, g3⟩
    · rw [g1, g2]
      exact .bl _
    · rw [g1, g2]
      exact .bl _
theorem w_dget2T {f : κ → (List Key)} (fi : KyI f) {w : (List (κ × β) → Prop) → Prop} {v : (κ → Prop) → Prop} {u : (β → Prop) → Prop} (h : EvDT K W ta ρ f e w) (hk : EvKT K W tk ρ f v) (hx : EvW K W tx ρ e u) : EvW K W (tDGetG2 K ta tk tx) ρ e (fun Q => w fun d => v fun k => u fun x => lt ((dget d k).getD x) Q) := fun Q q D0 H0 D H σ en R r =>
  h _ q D0 H0 D H σ en _ fun a xs D1 H1 ps s1 k1 q1 p1 => by
    have e1 := en.step s1
    have o1 := s1.ok en.ok
    refine ⟨a, rfl, .inr ⟨_, k1 D1 H1 (.refl o1)⟩, ?_⟩
    refine hk _ p1 D0 H0 D1 H1 σ e1 _ fun y D2 H2 d2 s2 q2 ⟨k, z2, p2⟩ => hx _ p2 D0 H0 D2 H2 σ (e1.step s2) _ fun z D3 H3 d3 s3 q3 ⟨x, z3, p3⟩ => ?_
    rw [z2] at q2
    have s23 := s2.trans o1 s3
    have o3 := s23.ok o1
    refine ⟨_, keyT_get o3.sub (k1 D3 H3 s23) (q2.up s3.gro) rfl, ?_⟩
    rcases valV_typed fi k ps xs (q1.up s23.gro) with ⟨g1, g2⟩ | ⟨v, b', g1, g2, g3⟩
    · rw [g1]
      exact r _ D3 H3 _ (s1.trans en.ok s23) q3 ⟨x, z3, by rw [g2] at p3; exact p3⟩
    · rw [g1]
      exact r _ D3 H3 _ (s1.trans en.ok s23) g3 ⟨b', rfl, by rw [g2] at p3; exact p3⟩
/-- {} -/
theorem st_dnewT {i : Nat} {f : κ → (List Key)} {Q : List (κ × β) → Prop} (hi : i < ρ.length) (q : lt ([] : List (κ × β)) Q) (k : ∀ ps, Q ps → StG K W EX tr (ρ.set i (Sk.dT f e ps)) O) : StG K W EX (tSeq (tAsg tDNewT (gName i)) tr) ρ O :=
  st_setO (s := .dT []) (PA := (· = [])) hi (fun D0 H0 D H σ en R r p hp => by
    exact r p [] D _ [] (.keptH en.ok (same_new hp)) hp (en.ok.sub.free hp) upd_same .nil rfl) fun ds z => by
    subst z
    exact k [] q
theorem em_dicT {f : κ → (List Key)} {ta : TA} {v : (γ → Prop) → Prop} {ks : γ → List Sk} (hr : EvM K W ta ρ ks v) : EvM K W (tCons tDNewT ta) ρ (fun p : List (κ × β) × γ => Sk.dT f e p.1 :: ks p.2) (fun Q => lt ([] : List (κ × β)) fun a => v fun b => Q (a, b)) := fun P p D0 H0 D H σ en Q q =>
  fun t ht => hr _ p D0 H0 D _ σ (en.step (.keptH en.ok (same_new ht))) _ fun vs D2 H2 b s2 m p2 => by
    have s1 : Step W D H D (upd H t (.dT [])) := .keptH en.ok (same_new ht)
    have hw : ¬ W.adr t := fun hw => W.has H t en.st.inv hw ht
    have hl' : (upd H t (.dT [])) t ≠ none := by rw [upd_same]; exact fun z => nomatch z
    refine q _ D2 H2 ([], b) (s1.trans en.ok s2) (.own (s := .dT []) ht (s2.new t (en.ok.sub.free ht) hl' (by rw [upd_same]; exact fun _ z => nomatch z)) (s2.off t _ hw upd_same) .nil (m.apart hl') (m.mono (fresh_mono en.ok s1))) p2
/-- d[k] = v -/
theorem st_dputT {i : Nat} {f : κ → (List Key)} (fi : KyI f) {ps : List (κ × β)} {w : (β → Prop) → Prop} {v : (κ → Prop) → Prop} {Q : List (κ × β) → Prop} (hρ : ρ[i]? = some (Sk.dT f e ps)) (h : EvW K W te ρ e w) (hk : EvAW K W tks ρ (fun k => (f k).map kD) v) (hz : ∀ k, (f k).length ≤ sizeLine) (q : w fun b => v fun k => dputW ps k b Q)
    (kk : ∀ qs, Q qs → StG K W EX tr (ρ.set i (Sk.dT f e qs)) O) : StG K W EX (tSeq (tAsg te (gSub (tVar i) (tTup tks) rSetD)) tr) ρ O := fun D0 H0 D H σ Dn en kn kb kc kr kx =>
  h _ q D0 H0 D H σ en _ fun u D1 H1 d s1 q1 ⟨b, z1, p1⟩ => by
    rw [z1] at q1
    have e1 := en.step s1
    obtain ⟨o, q0, l, xs, q2, q3, q4, q5, q6, q7⟩ := e1.slot i _ hρ
    subst q2
    refine ⟨.ref l, q0, ?_⟩
    refine hk _ p1 D0 H0 D1 H1 σ e1 _ fun vs D2 H2' ds s2' q2' ⟨k, z2, p2⟩ => ?_
    rw [z2] at q2'
    have hvs := DqA.keysV (f k) q2'
    subst hvs
    refine ⟨by rw [List.length_map]; exact hz k, fun t ht => ?_⟩
    have o2' := (s1.trans en.ok s2').ok en.ok
    have s2 := s2'.trans (s1.ok en.ok) (.keptH o2' (same_new ht) : Step W D2 H2' D2 (upd H2' t (.tup ((f k).map kV))))
    have e2 := e1.step s2
    obtain ⟨o', r1, l', xs', r2, r3, r4, r5, r6, r7⟩ := e2.slot i _ hρ
    rw [q0] at r1
    cases r1
    cases r2
    obtain ⟨ys, g1, g2⟩ := put_typed fi (k := k) (q1.up s2.gro) r7
    have g := s1.gro.trans s2.gro
    refine ⟨l, _, rfl, Or.inr ⟨_, f k, t, r6, rfl, upd_same, ?_, rfl⟩, ?_⟩
    · rw [List.length_zip, List.length_map, r7.len, List.length_map]
      have := p2.1
      omega
    rw [g1]
    exact kk _ p2.2 D0 H0 D2 _ σ Dn (e2.writeO (t := .dT ((dput ps k b).map fun p => f p.1)) hρ q0 g2) (fun a b c x g2 => kn a b c x (g.trans g2)) (fun a b c x g2 => kb a b c x (g.trans g2)) (fun a b c x g2 => kc a b c x (g.trans g2)) kr kx
end

def sortDKW {β : Type} (d : List (Str × β)) (Q : List Str → Prop) : Prop := (d.length < 64 ∧ (d.map fun p => p.1).Nodup) ∧ Q (srtS (d.map fun p => p.1))
theorem w_sortDK {K : PySem.W.Frag} {W : Fx} {ρ : List Sk} {β : Type} {te : TE} {e : β → PyData} {w : (List (Str × β) → Prop) → Prop} (h : EvW K W te ρ (eDicK kS e) w) : EvFW K W (tCB rSortDK (tCons te tNil)) ρ eS (fun Q => w fun d => sortDKW d Q) := fun Q q D0 H0 D H σ en R r =>
  h _ q D0 H0 D H σ en _ fun v D1 H1 d s1 q1 ⟨ps, z, p⟩ => by
    subst z
    obtain ⟨a, xs, rfl, r1, r2⟩ := dicK_at q1
    have o1 := s1.ok en.ok
    refine ⟨a, _, ps.map fun p => p.1, rfl, same_rdK o1.sub r1.rd, ?_, by rw [List.length_map]; exact p.1.1, fun ys p' hp hs hn => ?_⟩
    · rw [List.map_fst_zip (by rw [List.length_map, r2.len, List.length_map]; omega), List.map_map]
      rfl
    · refine r p' _ D1 _ _ (s1.trans en.ok (.keptH o1 (same_new hn))) (fresh_of en.ok s1 hn) (o1.sub.free hn) upd_same (DqA.strs ys) ⟨ys, rfl, ?_⟩
      rw [srtS_eq (sorted_nd hs (hp.nodup_iff.mpr p.1.2)) (fun k => hp.mem_iff)]
      exact p.2
end Dl

/-! ## Rules of the functional text -/
namespace Dl
open PySem PySem.Spec L2 PyProof.Rows
theorem le_sz {n : Nat} (h : n ≤ 16777216) : n ≤ sizeLine := by rw [sizeLine_eq]; exact h
theorem lt_sz {n : Nat} (h : n < 16777216) : n < sizeLine := by rw [sizeLine_eq]; exact h
section
variable {α β σ : Type}
/-- a comprehension whose items are told -/
theorem fmGo_fm {f : α → (Option β → Prop) → Prop} (g : α → Option β) : ∀ (xs : List α) {k : List β → Prop}, (∀ x ∈ xs, ∀ k : Option β → Prop, k (g x) → f x k) → k (xs.filterMap g) → fmGo f xs k
  | [], k, _, q => q
  | x :: xs, k, h, q => by
    refine h x List.mem_cons_self _ ?_
    have ih : ∀ {k : List β → Prop}, k (xs.filterMap g) → fmGo f xs k := fun q => fmGo_fm g xs (fun y hy => h y (List.mem_cons_of_mem _ hy)) q
    cases e : g x with
    | none =>
      rw [List.filterMap_cons_none e] at q
      exact ih q
    | some y =>
      rw [List.filterMap_cons_some e] at q
      exact ih q
theorem fmW_fm {f : α → (Option β → Prop) → Prop} (g : α → Option β) {xs : List α} {k : List β → Prop} (hl : xs.length ≤ 16777216) (h : ∀ x ∈ xs, ∀ k : Option β → Prop, k (g x) → f x k) (q : k (xs.filterMap g)) : fmW xs f k :=
  ⟨le_sz hl, fmGo_fm g xs h q⟩
theorem fmW_map {f : α → (Option β → Prop) → Prop} (g : α → β) {xs : List α} {k : List β → Prop} (hl : xs.length ≤ 16777216) (h : ∀ x ∈ xs, ∀ k : Option β → Prop, k (some (g x)) → f x k) (q : k (xs.map g)) : fmW xs f k :=
  fmW_fm (fun x => some (g x)) hl h (by rw [List.filterMap_eq_map']; exact q)
theorem fmW_filter {f : α → (Option β → Prop) → Prop} (p : α → Bool) (g : α → β) {xs : List α} {k : List β → Prop} (hl : xs.length ≤ 16777216) (h : ∀ x ∈ xs, ∀ k : Option β → Prop, k (if p x = true then some (g x) else none) → f x k) (q : k ((xs.filter p).map g)) : fmW xs f k :=
  fmW_fm (fun x => if p x = true then some (g x) else none) hl h (by
    have : xs.filterMap (fun x => if p x = true then some (g x) else none) = (xs.filter p).map g := by
      clear hl h q
      induction xs with
      | nil => rfl
      | cons x xs ih =>
        by_cases hp : p x = true
        · rw [List.filterMap_cons_some (b := g x) (by rw [if_pos hp]), ih, List.filter_cons_of_pos hp]
          rfl
        · rw [List.filterMap_cons_none (by rw [if_neg hp]), ih, List.filter_cons_of_neg hp]
    rw [this]
    exact q)
/-- .. of whose items something is known -/
theorem fmGo_rel {f : α → (Option β → Prop) → Prop} (R : α → Option β → Prop) : ∀ (xs : List α) {k : List β → Prop}, (∀ x ∈ xs, ∀ k : Option β → Prop, (∀ o, R x o → k o) → f x k) → (∀ os : List (Option β), os.length = xs.length → (∀ p ∈ xs.zip os, R p.1 p.2) → k (os.filterMap id)) → fmGo f xs k
  | [], k, _, q => q [] rfl (fun p h => by cases h)
  | x :: xs, k, h, q => by
    refine h x List.mem_cons_self _ fun o ho => ?_
    have ih : ∀ {k : List β → Prop}, (∀ os : List (Option β), os.length = xs.length → (∀ p ∈ xs.zip os, R p.1 p.2) → k (os.filterMap id)) → fmGo f xs k := fun q => fmGo_rel R xs (fun y hy => h y (List.mem_cons_of_mem _ hy)) q
    have q' : ∀ os : List (Option β), os.length = xs.length → (∀ p ∈ xs.zip os, R p.1 p.2) → k ((o :: os).filterMap id) := fun os h1 h2 => q (o :: os) (by rw [List.length_cons, List.length_cons, h1]) fun p hp => by
      rw [List.zip_cons_cons, List.mem_cons] at hp
      rcases hp with rfl | hp
      · exact ho
      · exact h2 p hp
    cases o with
    | none => exact ih fun os h1 h2 => q' os h1 h2
    | some y => exact ih fun os h1 h2 => q' os h1 h2
/-- a loop by an invariant over what was walked -/
theorem loopW_inv {body : α → σ → (σ → Prop) → (σ → Prop) → Prop} {k : σ → Prop} (Iv : List α → σ → Prop) : ∀ (ys xs : List α) {s : σ}, Iv ys s →
    (∀ ys x zs s, ys ++ x :: zs = ys ++ x :: zs → Iv ys s → x ∈ xs → ∀ kn kb, (∀ s', Iv (ys ++ [x]) s' → kn s') → (∀ s', k s' → kb s') → body x s kn kb) → (∀ s, Iv (ys ++ xs) s → k s) → loopW body xs s k
  | ys, [], s, h0, _, hk => by
    rw [List.append_nil] at hk
    exact hk s h0
  | ys, x :: xs, s, h0, hs, hk => by
    refine hs ys x xs s rfl h0 List.mem_cons_self _ _ (fun s' h' => ?_) (fun s' h' => h')
    refine loopW_inv Iv (ys ++ [x]) xs h' (fun ys x zs s e iv hx => hs ys x zs s e iv (List.mem_cons_of_mem _ hx)) fun s hh => hk s ?_
    rw [List.append_assoc] at hh
    exact hh
/-- .. from the start -/
theorem loopW_of {body : α → σ → (σ → Prop) → (σ → Prop) → Prop} {k : σ → Prop} {xs : List α} {s : σ} (Iv : List α → σ → Prop) (h0 : Iv [] s)
    (hs : ∀ ys x s, Iv ys s → x ∈ xs → ∀ kn kb, (∀ s', Iv (ys ++ [x]) s' → kn s') → (∀ s', k s' → kb s') → body x s kn kb) (hk : ∀ s, Iv xs s → k s) : loopW body xs s k :=
  loopW_inv Iv [] xs h0 (fun ys x _ s _ iv hx => hs ys x s iv hx) hk
/-- .. whose turns are told -/
theorem loopW_fold {body : α → σ → (σ → Prop) → (σ → Prop) → Prop} {k : σ → Prop} (st : σ → α → σ) : ∀ (xs : List α) {s : σ}, (∀ x ∈ xs, ∀ s kn kb, kn (st s x) → body x s kn kb) → k (xs.foldl st s) → loopW body xs s k
  | [], s, _, q => q
  | x :: xs, s, h, q => h x List.mem_cons_self s _ _ (loopW_fold st xs (fun y hy => h y (List.mem_cons_of_mem _ hy)) q)
/-- a loop by a measure -/
theorem whileN_of {test : σ → (Bool → Prop) → Prop} {body : σ → (σ → Prop) → (σ → Prop) → Prop} {k : σ → Prop} (Iv : σ → Prop) (μ : σ → Nat)
    (hs : ∀ s, Iv s → ∀ kn kb : σ → Prop, (∀ s', Iv s' → μ s' < μ s → kn s') → (∀ s', k s' → kb s') → test s fun b => if b = true then body s kn kb else k s) : ∀ (n : Nat) (s : σ), Iv s → μ s < n → whileN test body n s k
  | 0, s, _, h => absurd h (Nat.not_lt_zero _)
  | n + 1, s, iv, h => hs s iv _ _ (fun s' iv' hm => whileN_of Iv μ hs n s' iv' (Nat.lt_of_lt_of_le hm (Nat.le_of_lt_succ h))) (fun s' q => q)
theorem whileW_by {test : σ → (Bool → Prop) → Prop} {body : σ → (σ → Prop) → (σ → Prop) → Prop} {s : σ} {k : σ → Prop} (Iv : σ → Prop) (μ : σ → Nat) (h0 : Iv s)
    (hs : ∀ s, Iv s → ∀ kn kb : σ → Prop, (∀ s', Iv s' → μ s' < μ s → kn s') → (∀ s', k s' → kb s') → test s fun b => if b = true then body s kn kb else k s) : whileW test body s k :=
  ⟨μ s + 1, whileN_of Iv μ hs _ s h0 (Nat.lt_succ_self _)⟩
theorem cutG_le (xs : List α) (lo hi : Option Int) : (cutG xs lo hi).length ≤ xs.length := by
  unfold cutG
  rw [List.length_take, List.length_drop]
  omega
theorem rngG_len (lo : Int) (n : Nat) : (rngG lo n).length = n := by unfold rngG; simp
theorem rngW_of {lo hi : Int} {Q : List Int → Prop} (h1 : -1000000000 ≤ lo) (h2 : lo ≤ 1000000000) (h3 : -1000000000 ≤ hi) (h4 : hi ≤ 1000000000) (q : Q (rngG lo (hi - lo).toNat)) : rngW lo hi Q := ⟨⟨by omega, by omega, by omega, by omega⟩, q⟩
theorem enG_len : ∀ (n : Nat) (xs : List α), (enG n xs).length = xs.length
  | _, [] => rfl
  | n, x :: xs => by
    show (enG (n + 1) xs).length + 1 = xs.length + 1
    rw [enG_len (n + 1) xs]
theorem enG_app : ∀ (n : Nat) (xs ys : List α), enG n (xs ++ ys) = enG n xs ++ enG (n + xs.length) ys
  | n, [], ys => rfl
  | n, x :: xs, ys => by
    show _ :: enG (n + 1) (xs ++ ys) = _ :: (enG (n + 1) xs ++ _)
    rw [enG_app (n + 1) xs ys]
    congr 3
    rw [List.length_cons]
    omega
theorem mem_rngG {lo : Int} {n : Nat} {i : Int} : i ∈ rngG lo n ↔ lo ≤ i ∧ i < lo + n := by
  unfold rngG
  rw [List.mem_map]
  constructor
  · rintro ⟨j, hj, rfl⟩
    rw [List.mem_range] at hj
    omega
  · rintro ⟨h1, h2⟩
    exact ⟨(i - lo).toNat, List.mem_range.mpr (by omega), by omega⟩
end
def pickW {α : Type} (xs : List α) (Q : α → Prop) : Prop := xs ≠ [] ∧ xs.length < 1000000 ∧ ∀ x ∈ xs, Q x
/-- a draw -/
def drawW (n : Int) (Q : Int → Prop) : Prop := 0 < n ∧ n < 1000000 ∧ ∀ r, 0 ≤ r → r < n → Q r
end Dl

/-! ## Lists taken apart, signsG -/
namespace Dl
open PySem PySem.Spec L2 PyProof.Rows
theorem dqa_cons {K : PySem.W.Frag} {D : Hp} {vs : List V} {d : PyData} {ds : List PyData} (h : DqA K D vs (d :: ds)) : ∃ v r, vs = v :: r ∧ Dq K D v d ∧ DqA K D r ds := by
  cases h with
  | cons h1 h2 => exact ⟨_, _, rfl, h1, h2⟩
theorem dqa1 {K : PySem.W.Frag} {D : Hp} {vs : List V} {d0 : PyData} (h : DqA K D vs [d0]) : ∃ v0, vs = [v0] ∧ Dq K D v0 d0 := by
  obtain ⟨_, _, rfl, h0, h⟩ := dqa_cons h
  cases h
  exact ⟨_, rfl, h0⟩
theorem dqa2 {K : PySem.W.Frag} {D : Hp} {vs : List V} {d0 d1 : PyData} (h : DqA K D vs [d0, d1]) : ∃ v0 v1, vs = [v0, v1] ∧ Dq K D v0 d0 ∧ Dq K D v1 d1 := by
  obtain ⟨_, _, rfl, h0, h⟩ := dqa_cons h
  obtain ⟨_, _, rfl, h1, h⟩ := dqa_cons h
  cases h
  exact ⟨_, _, rfl, h0, h1⟩
theorem dqa3 {K : PySem.W.Frag} {D : Hp} {vs : List V} {d0 d1 d2 : PyData} (h : DqA K D vs [d0, d1, d2]) : ∃ v0 v1 v2, vs = [v0, v1, v2] ∧ Dq K D v0 d0 ∧ Dq K D v1 d1 ∧ Dq K D v2 d2 := by
  obtain ⟨_, _, rfl, h0, h⟩ := dqa_cons h
  obtain ⟨_, _, rfl, h1, h⟩ := dqa_cons h
  obtain ⟨_, _, rfl, h2, h⟩ := dqa_cons h
  cases h
  exact ⟨_, _, _, rfl, h0, h1, h2⟩
theorem dqa4 {K : PySem.W.Frag} {D : Hp} {vs : List V} {d0 d1 d2 d3 : PyData} (h : DqA K D vs [d0, d1, d2, d3]) : ∃ v0 v1 v2 v3, vs = [v0, v1, v2, v3] ∧ Dq K D v0 d0 ∧ Dq K D v1 d1 ∧ Dq K D v2 d2 ∧ Dq K D v3 d3 := by
  obtain ⟨_, _, rfl, h0, h⟩ := dqa_cons h
  obtain ⟨_, _, rfl, h1, h⟩ := dqa_cons h
  obtain ⟨_, _, rfl, h2, h⟩ := dqa_cons h
  obtain ⟨_, _, rfl, h3, h⟩ := dqa_cons h
  cases h
  exact ⟨_, _, _, _, rfl, h0, h1, h2, h3⟩
theorem dqa5 {K : PySem.W.Frag} {D : Hp} {vs : List V} {d0 d1 d2 d3 d4 : PyData} (h : DqA K D vs [d0, d1, d2, d3, d4]) : ∃ v0 v1 v2 v3 v4, vs = [v0, v1, v2, v3, v4] ∧ Dq K D v0 d0 ∧ Dq K D v1 d1 ∧ Dq K D v2 d2 ∧ Dq K D v3 d3 ∧ Dq K D v4 d4 := by
  obtain ⟨_, _, rfl, h0, h⟩ := dqa_cons h
  obtain ⟨_, _, rfl, h1, h⟩ := dqa_cons h
  obtain ⟨_, _, rfl, h2, h⟩ := dqa_cons h
  obtain ⟨_, _, rfl, h3, h⟩ := dqa_cons h
  obtain ⟨_, _, rfl, h4, h⟩ := dqa_cons h
  cases h
  exact ⟨_, _, _, _, _, rfl, h0, h1, h2, h3, h4⟩
theorem dqa6 {K : PySem.W.Frag} {D : Hp} {vs : List V} {d0 d1 d2 d3 d4 d5 : PyData} (h : DqA K D vs [d0, d1, d2, d3, d4, d5]) : ∃ v0 v1 v2 v3 v4 v5, vs = [v0, v1, v2, v3, v4, v5] ∧ Dq K D v0 d0 ∧ Dq K D v1 d1 ∧ Dq K D v2 d2 ∧ Dq K D v3 d3 ∧ Dq K D v4 d4 ∧ Dq K D v5 d5 := by
  obtain ⟨_, _, rfl, h0, h⟩ := dqa_cons h
  obtain ⟨_, _, rfl, h1, h⟩ := dqa_cons h
  obtain ⟨_, _, rfl, h2, h⟩ := dqa_cons h
  obtain ⟨_, _, rfl, h3, h⟩ := dqa_cons h
  obtain ⟨_, _, rfl, h4, h⟩ := dqa_cons h
  obtain ⟨_, _, rfl, h5, h⟩ := dqa_cons h
  cases h
  exact ⟨_, _, _, _, _, _, rfl, h0, h1, h2, h3, h4, h5⟩
def signsG (z : Str) : List Str := z.cps.toList.map fun c => (⟨#[c]⟩ : Str)
section
variable {K : PySem.W.Frag} {W : Fx} {ρ ρ' : List Sk} {α : Type} {te : TE} {ds : List PyData}
theorem eg_lst {g : TGs} {n : Nat} {js : List Nat} (h : EvGs K W g ρ ds ρ' js) (hn : ds.length = n) : EvG K W (gLst K n g) ρ (.list ds) ρ' js := fun D0 H0 D H σ e v q Q k => by
  cases q with
  | lst h1 h2 => exact ⟨_, _, rfl, same_l e.ok.sub h1, by rw [h2.len, hn], h D0 H0 D H σ e _ h2 Q k⟩
theorem i_strW {w : (Str → Prop) → Prop} (h : EvW K W te ρ eS w) : EvIW K W (iStr te) ρ eS (fun Q => w fun z => lt (signsG z) Q) := fun Q q D0 H0 D H σ en R r =>
  h _ q D0 H0 D H σ en _ fun v D1 H1 d s1 q1 ⟨z, z1, p⟩ => by
    subst z1
    cases q1
    refine ⟨z, rfl, r _ D1 H1 _ s1 Walks.str ⟨signsG z, ?_, p⟩⟩
    unfold signsG
    rw [List.map_map]
    rfl
theorem eqV_key (a b : Key) : eqV (kV a) (kV b) = decide (a = b) := by
  cases a with
  | inl i =>
    cases b with
    | inl j =>
      show (i == j) = _
      by_cases h : i = j <;> simp [h]
    | inr z => rfl
  | inr y =>
    cases b with
    | inl j => rfl
    | inr z =>
      show (y == z) = _
      by_cases h : y = z <;> simp [h]
theorem inV_keys {k : Key} (ns : List Key) : inV (kV k) (ns.map kV) = decide (k ∈ ns) := by
  unfold inV
  rw [List.any_map]
  induction ns with
  | nil => simp
  | cons n ns ih =>
    rw [List.any_cons, ih]
    show (eqV (kV n) (kV k) || _) = _
    rw [eqV_key]
    by_cases h : n = k
    · simp [h]
    · have h' : ¬ k = n := fun z => h z.symm
      by_cases g : k ∈ ns <;> simp [h, h', g]
theorem flat_keys (ns : List Key) : (ns.map kV).all flatV = true := by
  rw [List.all_map]
  exact List.all_eq_true.mpr fun k _ => by cases k <;> rfl
theorem flat_key (k : Key) : flatV (kV k) = true := by cases k <;> rfl
variable {ta tb : TE}
theorem w_inKL {neg : Bool} {wa : (Key → Prop) → Prop} {wb : (List Key → Prop) → Prop} (ha : EvW K W ta ρ eK wa) (hb : EvLW K W tb ρ eK wb) : EvW K W (tOp (rIn K neg) ta tb) ρ eB (fun Q => wa fun a => wb fun b => lt (negB neg (decide (a ∈ b))) Q) := fun Q q D0 H0 D H σ en R r =>
  ha _ q D0 H0 D H σ en _ fun u D1 H1 d s1 q1 ⟨m, z, p⟩ => hb _ p D0 H0 D1 H1 σ (en.step s1) _ fun l vs D2 H2 d2 s2 k2 q2 ⟨ns, z2, p2⟩ => by
    subst z
    subst z2
    have hu := kD_dq q1
    subst hu
    have := DqA.keysV ns q2
    subst this
    refine ⟨_, _, rfl, Or.inl (k2 D2 H2 (.refl ((s1.trans en.ok s2).ok en.ok))), flat_key m, flat_keys ns, ?_⟩
    rw [inV_keys]
    exact r _ D2 H2 _ (s1.trans en.ok s2) (.bl _) ⟨_, rfl, p2⟩
theorem w_inKT {neg : Bool} {wa : (Key → Prop) → Prop} {wb : (List Key → Prop) → Prop} (ha : EvW K W ta ρ eK wa) (hb : EvW K W tb ρ (eTup eK) wb) : EvW K W (tOp (rIn K neg) ta tb) ρ eB (fun Q => wa fun a => wb fun b => lt (negB neg (decide (a ∈ b))) Q) := fun Q q D0 H0 D H σ en R r =>
  ha _ q D0 H0 D H σ en _ fun u D1 H1 d s1 q1 ⟨m, z, p⟩ => hb _ p D0 H0 D1 H1 σ (en.step s1) _ fun u2 D2 H2 d2 s2 q2 ⟨ns, z2, p2⟩ => by
    subst z
    subst z2
    have hu := kD_dq q1
    subst hu
    cases q2 with
    | tup h1 h2 =>
      have := DqA.keysV ns h2
      subst this
      refine ⟨_, _, rfl, Or.inr (same_t s2.sub h1), flat_key m, flat_keys ns, ?_⟩
      rw [inV_keys]
      exact r _ D2 H2 _ (s1.trans en.ok s2) (.bl _) ⟨_, rfl, p2⟩
end
end Dl

/-! ## More rules of the functional text; what repr shows -/
namespace Dl
open PySem PySem.Spec L2 PyProof.Rows
section
variable {α β σ κ : Type} [DecidableEq κ]
theorem loopW_preGo {body : α → σ → (σ → Prop) → (σ → Prop) → Prop} {k : σ → Prop} (Iv : List α → σ → Prop) (all : List α) : ∀ (ys xs : List α) {s : σ}, all = ys ++ xs → Iv ys s →
    (∀ ys x zs s, all = ys ++ x :: zs → Iv ys s → ∀ kn kb, (∀ s', Iv (ys ++ [x]) s' → kn s') → (∀ s', k s' → kb s') → body x s kn kb) → (∀ s, Iv all s → k s) → loopW body xs s k
  | ys, [], s, e, h0, _, hk => by
    rw [List.append_nil] at e
    subst e
    exact hk s h0
  | ys, x :: xs, s, e, h0, hs, hk => by
    refine hs ys x xs s e h0 _ _ (fun s' h' => ?_) (fun s' h' => h')
    exact loopW_preGo Iv all (ys ++ [x]) xs (by rw [e, List.append_assoc]; rfl) h' hs hk
/-- a loop by an invariant over what was walked, a part of the whole -/
theorem loopW_pre {body : α → σ → (σ → Prop) → (σ → Prop) → Prop} {k : σ → Prop} {xs : List α} {s : σ} (Iv : List α → σ → Prop) (h0 : Iv [] s)
    (hs : ∀ ys x zs s, xs = ys ++ x :: zs → Iv ys s → ∀ kn kb, (∀ s', Iv (ys ++ [x]) s' → kn s') → (∀ s', k s' → kb s') → body x s kn kb) (hk : ∀ s, Iv xs s → k s) : loopW body xs s k :=
  loopW_preGo Iv xs [] xs rfl h0 hs hk
/-- a loop that gathers -/
theorem loopW_gather {body : α → List β → (List β → Prop) → (List β → Prop) → Prop} {k : List β → Prop} (g : α → List β) (N : Nat) {xs : List α} {s : List β} (hN : s.length + (xs.flatMap g).length ≤ N)
    (hs : ∀ x ∈ xs, ∀ s kn kb, s.length + (g x).length ≤ N → kn (s ++ g x) → body x s kn kb) (hk : k (s ++ xs.flatMap g)) : loopW body xs s k := by
  refine loopW_pre (fun ys s' => s' = s ++ ys.flatMap g) (by simp) ?_ (fun s' e => by rw [e]; exact hk)
  rintro ys x zs s' e rfl kn kb h1 _
  have hx : x ∈ xs := by rw [e]; simp
  have hl : (xs.flatMap g).length = (ys.flatMap g).length + ((g x).length + (zs.flatMap g).length) := by rw [e, List.flatMap_append, List.flatMap_cons, List.length_append, List.length_append]
  refine hs x hx _ kn kb (by rw [List.length_append]; omega) (h1 _ ?_)
  rw [List.flatMap_append, List.append_assoc]
  simp
/-- .. one item a turn -/
theorem loopW_map {body : α → List β → (List β → Prop) → (List β → Prop) → Prop} {k : List β → Prop} (g : α → β) (N : Nat) {xs : List α} {s : List β} (hN : s.length + xs.length ≤ N)
    (hs : ∀ x ∈ xs, ∀ s kn kb, s.length + 1 ≤ N → kn (s ++ [g x]) → body x s kn kb) (hk : k (s ++ xs.map g)) : loopW body xs s k := by
  have e : xs.flatMap (fun x => [g x]) = xs.map g := by
    clear hN hs hk
    induction xs with
    | nil => rfl
    | cons x xs ih => rw [List.flatMap_cons, List.map_cons, ih]; rfl
  exact loopW_gather (fun x => [g x]) N (by rw [e, List.length_map]; exact hN) hs (by rw [e]; exact hk)
/-! dicts -/
theorem dput_new {ps : List (κ × β)} {k : κ} {b : β} (h : k ∉ ps.map fun p => p.1) : dput ps k b = ps ++ [(k, b)] := by
  unfold dput
  rw [if_neg]
  intro z
  rw [List.any_eq_true] at z
  obtain ⟨p, hp, e⟩ := z
  exact h (List.mem_map.mpr ⟨p, hp, of_decide_eq_true e⟩)
theorem dget_nil {k : κ} : dget ([] : List (κ × β)) k = none := rfl
theorem dget_cons {p : κ × β} {ps : List (κ × β)} {k : κ} : dget (p :: ps) k = if p.1 = k then some p.2 else dget ps k := by
  unfold dget
  by_cases h : p.1 = k
  · rw [List.find?_cons_of_pos (by simpa using h), if_pos h]
    rfl
  · rw [List.find?_cons_of_neg (by simpa using h), if_neg h]
theorem dget_none {k : κ} : ∀ {ps : List (κ × β)}, (k ∉ ps.map fun p => p.1) → dget ps k = none
  | [], _ => rfl
  | p :: ps, h => by
    rw [dget_cons, if_neg (fun z => h (by rw [List.map_cons, z]; exact List.mem_cons_self)), dget_none fun z => h (List.mem_cons_of_mem _ z)]
theorem dget_mem {k : κ} {b : β} : ∀ {ps : List (κ × β)}, (ps.map fun p => p.1).Nodup → (k, b) ∈ ps → dget ps k = some b
  | [], _, h => by cases h
  | p :: ps, hn, h => by
    rw [List.map_cons, List.nodup_cons] at hn
    rw [dget_cons]
    rcases List.mem_cons.mp h with e | h
    · rw [← e, if_pos rfl]
    · rw [if_neg (fun z => hn.1 (by rw [z]; exact List.mem_map.mpr ⟨_, h, rfl⟩)), dget_mem hn.2 h]
theorem mem_dget {k : κ} {b : β} : ∀ {ps : List (κ × β)}, dget ps k = some b → (k, b) ∈ ps
  | [], h => by cases h
  | p :: ps, h => by
    rw [dget_cons] at h
    split at h
    · rename_i e
      injection h with h
      subst e h
      exact List.mem_cons_self
    · exact List.mem_cons_of_mem _ (mem_dget h)
theorem dput_keys {ps : List (κ × β)} {k : κ} {b : β} : (dput ps k b).map (fun p => p.1) = if k ∈ ps.map (fun p => p.1) then ps.map (fun p => p.1) else ps.map (fun p => p.1) ++ [k] := by
  by_cases h : k ∈ ps.map fun p => p.1
  · rw [if_pos h]
    unfold dput
    rw [if_pos (by
      rw [List.any_eq_true]
      obtain ⟨p, hp, e⟩ := List.mem_map.mp h
      exact ⟨p, hp, decide_eq_true e⟩), List.map_map]
    refine List.map_congr_left fun p _ => ?_
    show (if p.1 = k then (p.1, b) else p).1 = p.1
    split <;> rfl
  · rw [if_neg h, dput_new h, List.map_append]
    rfl
theorem dget_dput {ps : List (κ × β)} {k j : κ} {b : β} : dget (dput ps k b) j = if j = k then some b else dget ps j := by
  by_cases h : k ∈ ps.map fun p => p.1
  · unfold dput
    rw [if_pos (by
      rw [List.any_eq_true]
      obtain ⟨p, hp, e⟩ := List.mem_map.mp h
      exact ⟨p, hp, decide_eq_true e⟩)]
    induction ps with
    | nil => cases h
    | cons p ps ih =>
      rw [List.map_cons, dget_cons, dget_cons]
      by_cases e : p.1 = k
      · rw [if_pos e]
        by_cases ej : p.1 = j
        · rw [if_pos ej, if_pos (ej.symm.trans e)]
        · rw [if_neg ej, if_neg (fun z => ej (e.trans z.symm))]
          have hj : ∀ qs : List (κ × β), dget (qs.map fun p => if p.1 = k then (p.1, b) else p) j = dget qs j := by
            intro qs
            induction qs with
            | nil => rfl
            | cons q qs ih2 =>
              rw [List.map_cons, dget_cons, dget_cons, ih2]
              by_cases eq : q.1 = k
              · rw [if_pos eq]
                show (if q.1 = j then _ else _) = _
                rw [if_neg (fun z => ej (e.trans (eq.symm.trans z))), if_neg (fun z => ej (e.trans (eq.symm.trans z)))]
              · rw [if_neg eq]
          rw [hj, if_neg ej]
      · rw [if_neg e]
        by_cases ej : p.1 = j
        · rw [if_pos ej, if_neg (fun z => e (ej.trans z)), if_pos ej]
        · rw [if_neg ej, if_neg ej]
          refine ih ?_
          rcases List.mem_cons.mp h with z | z
          · exact (e z.symm).elim
          · exact z
  · rw [dput_new h]
    induction ps with
    | nil =>
      show dget [(k, b)] j = _
      rw [dget_cons]
      by_cases e : j = k
      · rw [if_pos e, if_pos e.symm]
      · rw [if_neg e, if_neg (fun z => e z.symm)]
    | cons p ps ih =>
      rw [List.cons_append, dget_cons, dget_cons, ih (fun z => h (List.mem_cons_of_mem _ z))]
      by_cases e : p.1 = j
      · rw [if_pos e, if_pos e, if_neg (fun z => h (by rw [← z, ← e]; exact List.mem_cons_self))]
      · rw [if_neg e, if_neg e]
theorem dput_len {ps : List (κ × β)} {k : κ} {b : β} : (dput ps k b).length ≤ ps.length + 1 := by
  have := congrArg List.length (dput_keys (ps := ps) (k := k) (b := b))
  rw [List.length_map] at this
  rw [this]
  split
  · rw [List.length_map]; omega
  · rw [List.length_append, List.length_map]; exact Nat.le_refl _
/-- a loop that puts new keys -/
theorem loopW_dnew {body : α → List (κ × β) → (List (κ × β) → Prop) → (List (κ × β) → Prop) → Prop} {k : List (κ × β) → Prop} (key : α → κ) (val : α → β) (N : Nat) {xs : List α} {s : List (κ × β)} (hN : s.length + xs.length ≤ N)
    (hn : ((s.map fun p => p.1) ++ xs.map key).Nodup)
    (hs : ∀ x ∈ xs, ∀ s kn kb, s.length + 1 ≤ N → kn (dput s (key x) (val x)) → body x s kn kb) (hk : k (s ++ xs.map fun x => (key x, val x))) : loopW body xs s k := by
  refine loopW_pre (fun ys s' => s' = s ++ ys.map fun x => (key x, val x)) (by simp) ?_ (fun s' e => by rw [e]; exact hk)
  rintro ys x zs s' e rfl kn kb h1 _
  have hx : x ∈ xs := by rw [e]; simp
  have hl := congrArg List.length e
  rw [List.length_append, List.length_cons] at hl
  refine hs x hx _ kn kb (by rw [List.length_append, List.length_map]; omega) ?_
  have hni : key x ∉ ((s ++ ys.map fun x => (key x, val x)).map fun p => p.1) := by
    rw [e, List.map_append, List.map_cons, ← List.append_assoc] at hn
    rw [List.map_append, List.map_map]
    have := (List.nodup_append.mp hn).2.2
    intro z
    exact this _ z (key x) List.mem_cons_self rfl
  rw [dput_new hni]
  refine h1 _ ?_
  rw [List.map_append, List.append_assoc]
  rfl
end
/-! what repr shows -/
def Smy {α : Type} (e : α → PyData) (w p : Nat) (a : α) : Prop := Sm w p (e a)
theorem reprW_of {d : PyData} {w p : Nat} {Q : Str → Prop} (h : Sm w p d) (hp : p ≤ 60) (hw : w ≤ 16777216) (q : Q d.shown) : reprW d Q := ⟨⟨h.a, h.b, Nat.le_trans h.c hp, Nat.le_trans h.e (le_sz hw)⟩, q⟩
theorem Sm.pair {w p : Nat} {a b : PyData} (h1 : Sm w p a) (h2 : Sm w p b) : Sm (4 + 2 * (w + 2)) (p + 1) (.tuple [a, b]) := Sm.tuple (fun d hd => by
  simp only [List.mem_cons, List.not_mem_nil, or_false] at hd
  rcases hd with rfl | rfl
  · exact h1
  · exact h2) (Nat.le_refl 2)
theorem Sm.tripl {w p : Nat} {a b c : PyData} (h1 : Sm w p a) (h2 : Sm w p b) (h3 : Sm w p c) : Sm (4 + 3 * (w + 2)) (p + 1) (.tuple [a, b, c]) := Sm.tuple (fun d hd => by
  simp only [List.mem_cons, List.not_mem_nil, or_false] at hd
  rcases hd with rfl | rfl | rfl
  · exact h1
  · exact h2
  · exact h3) (Nat.le_refl 3)
theorem Sm.int7 {i : Int} (h0 : -9999999 ≤ i) (h1 : i ≤ 9999999) : Sm 8 1 (.int i) := Sm.int (k := 7) (by decide) (by omega) (by decide)
theorem Sm.tupM {α : Type} {e : α → PyData} {w p n : Nat} {xs : List α} (h : ∀ x ∈ xs, Sm w p (e x)) (hn : xs.length ≤ n) : Sm (4 + n * (w + 2)) (p + 1) (eTup e xs) := Sm.tuple (fun d hd => by
  obtain ⟨x, hx, rfl⟩ := List.mem_map.mp hd
  exact h x hx) (by rw [List.length_map]; exact hn)
theorem Sm.lstM {α : Type} {e : α → PyData} {w p n : Nat} {xs : List α} (h : ∀ x ∈ xs, Sm w p (e x)) (hn : xs.length ≤ n) : Sm (4 + n * (w + 2)) (p + 1) (eLst e xs) := Sm.list (fun d hd => by
  obtain ⟨x, hx, rfl⟩ := List.mem_map.mp hd
  exact h x hx) (by rw [List.length_map]; exact hn)
end Dl

/-! ## Dicts that group -/
namespace Dl
open PySem PySem.Spec L2 PyProof.Rows
section
variable {α β σ κ : Type} [DecidableEq κ]
/-- one more of a group -/
def grp1 (d : List (κ × List β)) (e : κ × β) : List (κ × List β) := dput d e.1 ((dget d e.1).getD [] ++ [e.2])
def grp (d : List (κ × List β)) (es : List (κ × β)) : List (κ × List β) := es.foldl grp1 d
def ofK (k : κ) (es : List (κ × β)) : List β := (es.filter fun e => decide (e.1 = k)).map fun e => e.2
theorem ofK_app (k : κ) (xs ys : List (κ × β)) : ofK k (xs ++ ys) = ofK k xs ++ ofK k ys := by
  unfold ofK
  rw [List.filter_append, List.map_append]
theorem grp_snoc {d : List (κ × List β)} {es : List (κ × β)} {e : κ × β} : grp d (es ++ [e]) = grp1 (grp d es) e := by
  unfold grp
  rw [List.foldl_append]
  rfl
theorem grp_get (k : κ) : ∀ (es : List (κ × β)) (d : List (κ × List β)), (dget (grp d es) k).getD [] = (dget d k).getD [] ++ ofK k es
  | [], d => by
    show _ = _ ++ []
    rw [List.append_nil]
    rfl
  | e :: es, d => by
    show (dget (grp (grp1 d e) es) k).getD [] = _
    rw [grp_get k es]
    unfold grp1
    rw [dget_dput]
    by_cases h : k = e.1
    · rw [if_pos h]
      have : ofK k (e :: es) = e.2 :: ofK k es := by
        unfold ofK
        rw [List.filter_cons_of_pos (by simp [h])]
        rfl
      rw [this, h]
      simp
    · rw [if_neg h]
      have : ofK k (e :: es) = ofK k es := by
        unfold ofK
        rw [List.filter_cons_of_neg (by simpa using fun z => h z.symm)]
      rw [this]
theorem grp_mem (k : κ) : ∀ (es : List (κ × β)) (d : List (κ × List β)), k ∈ (grp d es).map (fun p => p.1) ↔ k ∈ d.map (fun p => p.1) ∨ k ∈ es.map (fun e => e.1)
  | [], d => by
    show k ∈ d.map (fun p => p.1) ↔ _
    simp
  | e :: es, d => by
    show k ∈ (grp (grp1 d e) es).map (fun p => p.1) ↔ _
    rw [grp_mem k es]
    unfold grp1
    rw [dput_keys, List.map_cons, List.mem_cons]
    constructor
    · rintro (h | h)
      · split at h
        · exact Or.inl h
        · rw [List.mem_append, List.mem_singleton] at h
          rcases h with h | h
          · exact Or.inl h
          · exact Or.inr (Or.inl h)
      · exact Or.inr (Or.inr h)
    · rintro (h | h | h)
      · refine Or.inl ?_
        split
        · exact h
        · exact List.mem_append_left _ h
      · refine Or.inl ?_
        rw [h]
        split
        · assumption
        · simp
      · exact Or.inr h
theorem grp_nd : ∀ (es : List (κ × β)) (d : List (κ × List β)), (d.map fun p => p.1).Nodup → ((grp d es).map fun p => p.1).Nodup
  | [], d, h => h
  | e :: es, d, h => grp_nd es (grp1 d e) (by
    unfold grp1
    rw [dput_keys]
    split
    · exact h
    · rename_i hn
      refine List.nodup_append.mpr ⟨h, List.pairwise_singleton _ _, fun a ha b hb e2 => ?_⟩
      rw [List.mem_singleton] at hb
      subst hb
      exact hn (e2 ▸ ha))
theorem grp_len : ∀ (es : List (κ × β)) (d : List (κ × List β)), (grp d es).length ≤ d.length + es.length
  | [], d => Nat.le_refl _
  | e :: es, d => by
    have := grp_len es (grp1 d e)
    have h2 : (grp1 d e).length ≤ d.length + 1 := dput_len
    rw [List.length_cons]
    show (grp (grp1 d e) es).length ≤ _
    omega
theorem dget_ex {ps : List (κ × β)} {k : κ} (h : k ∈ ps.map fun p => p.1) : ∃ b, dget ps k = some b := by
  cases e : dget ps k with
  | some b => exact ⟨b, rfl⟩
  | none =>
    exfalso
    induction ps with
    | nil => cases h
    | cons p ps ih =>
      rw [dget_cons] at e
      split at e
      · cases e
      · rename_i hk
        rcases List.mem_cons.mp h with z | z
        · exact hk z.symm
        · exact ih z e
theorem ofK_len (k : κ) (es : List (κ × β)) : (ofK k es).length ≤ es.length := by
  unfold ofK
  rw [List.length_map]
  exact List.length_filter_le _ _
theorem mem_ofK {k : κ} {es : List (κ × β)} {b : β} : b ∈ ofK k es ↔ (k, b) ∈ es := by
  unfold ofK
  rw [List.mem_map]
  constructor
  · rintro ⟨e, he, rfl⟩
    rw [List.mem_filter] at he
    have := of_decide_eq_true he.2
    subst this
    exact he.1
  · intro h
    exact ⟨(k, b), List.mem_filter.mpr ⟨h, by simp⟩, rfl⟩
theorem ofK_flat {α : Type} (k : κ) (f : α → List (κ × β)) : ∀ (xs : List α), ofK k (xs.flatMap f) = xs.flatMap fun x => ofK k (f x)
  | [] => rfl
  | x :: xs => by
    rw [List.flatMap_cons, ofK_app, ofK_flat k f xs, List.flatMap_cons]
end
theorem srtS_nd (zs : List Str) : (srtS zs).Nodup := (List.mergeSort_perm (once zs) leS).nodup_iff.mpr (nd_once zs)
end Dl

/-! ## Walks of dicts -/
namespace Dl
open PySem PySem.Spec L2 PyProof.Rows
theorem dq_key {K : PySem.W.Frag} {D : Hp} : ∀ (k : Key), Dq K D (kV k) (kD k)
  | .inl i => .int i
  | .inr z => .str z
theorem dqA_keys {K : PySem.W.Frag} {D : Hp} : ∀ (ks : List Key), DqA K D (ks.map kV) (ks.map kD)
  | [] => .nil
  | k :: ks => .cons (dq_key k) (dqA_keys ks)
/-- a tuple that stands is told -/
theorem tell_tup {K : PySem.W.Frag} {W : Fx} {D H : Hp} (o : Ok W D H) {q : Addr} {ks : List Key} (h : H q = some (.tup (ks.map kV))) : ∃ D2, Step W D H D2 H ∧ Dq K D2 (.ref q) (tD ks) := by
  cases e : D q with
  | some u =>
    have := o.sub q u e
    rw [h] at this
    cases this
    exact ⟨D, .refl o, .tup (Or.inl (Or.inl e)) (dqA_keys ks)⟩
  | none =>
    have g : Same D (upd D q (.tup (ks.map kV))) := same_new e
    refine ⟨upd D q (.tup (ks.map kV)), ⟨g, fun b x z => ?_, fun _ _ _ z => z, fun p h1 h2 h3 => ?_, o.inv⟩, .tup (Or.inl (Or.inl upd_same)) (dqA_keys ks)⟩
    · by_cases hb : b = q
      · subst hb
        rw [upd_same] at z
        rw [h, z]
      · rw [upd_ne hb] at z
        exact o.sub b x z
    · rw [upd_ne (fun z => h3 _ (by rw [z]; exact h))]
      exact h1
/-- the locked dict at d tells ps -/
structure Wd (K : PySem.W.Frag) (D : Hp) (d : Addr) (o : Obj) (u : HO) (kds ds : List PyData) : Prop where
  is : IsU u
  at' : D d = some (.frz o u)
  sz : szU u = kds.length
  sz2 : kds.length = ds.length
  en : ∀ {W : Fx} (D1 H1 : Hp) (i : Nat) x v, Ok W D1 H1 → Same D D1 → enU H1 u i x v → ∃ D2 kd dd, Step W D1 H1 D2 H1 ∧ kds[i]? = some kd ∧ ds[i]? = some dd ∧ Dq K D2 x kd ∧ Dq K D2 v dd
section
variable {K : PySem.W.Frag} {D : Hp} {κ β : Type} [DecidableEq κ] {e : β → PyData}
theorem wdK {v : V} {f : κ → Key} {ps : List (κ × β)} (h : Dq K D v (eDicK f e ps)) : ∃ d o u, v = .ref d ∧ Wd K D d o u (ps.map fun p => kD (f p.1)) (ps.map fun p => e p.2) := by
  obtain ⟨a, xs, rfl, h1, h2⟩ := dicK_at h
  have hl : xs.length = ps.length := by rw [h2.len, List.length_map]
  rcases h1 with ⟨o, h1⟩ | ⟨e0, o, h1⟩
  · refine ⟨a, o, (.dK ((ps.map fun p => f p.1).zip xs)), rfl, (show True from trivial), h1, ?_, by simp, fun {W} D1 H1 i x v ok g en => ?_⟩
    · show ((ps.map fun p => f p.1).zip xs).length = _
      rw [List.length_zip, List.length_map, List.length_map]
      omega
    · obtain ⟨k, hk, rfl⟩ := en
      rw [List.getElem?_zip_eq_some] at hk
      obtain ⟨hk1, hk2⟩ := hk
      obtain ⟨d, hd, q⟩ := h2.atV hk2
      refine ⟨D1, kD k, d, .refl ok, ?_, hd, dq_key k, q.up g⟩
      rw [List.getElem?_map] at hk1 ⊢
      cases hp : ps[i]? with
      | none => rw [hp] at hk1; cases hk1
      | some p =>
        rw [hp] at hk1
        cases hk1
        rfl
  · have hp : ps = [] := by
      have := congrArg List.length e0
      rw [List.length_zip, List.length_map] at this
      refine List.length_eq_zero_iff.mp ?_
      simp only [List.length_nil] at this
      omega
    subst hp
    refine ⟨a, o, (.dT []), rfl, (show True from trivial), h1, rfl, rfl, fun {W} D1 H1 i x v ok g en => ?_⟩
    obtain ⟨k, q, hk, _⟩ := en
    cases hk
theorem wdT {v : V} {f : κ → List Key} {ps : List (κ × β)} (h : Dq K D v (eDicT f e ps)) : ∃ d o u, v = .ref d ∧ Wd K D d o u (ps.map fun p => tD (f p.1)) (ps.map fun p => e p.2) := by
  obtain ⟨a, xs, rfl, h1, h2⟩ := dicT_at h
  have hl : xs.length = ps.length := by rw [h2.len, List.length_map]
  rcases h1 with ⟨o, h1⟩ | ⟨e0, o, h1⟩
  · refine ⟨a, o, (.dT ((ps.map fun p => f p.1).zip xs)), rfl, (show True from trivial), h1, ?_, by simp, fun {W} D1 H1 i x v ok g en => ?_⟩
    · show ((ps.map fun p => f p.1).zip xs).length = _
      rw [List.length_zip, List.length_map, List.length_map]
      omega
    · obtain ⟨k, q, hk, rfl, hq⟩ := en
      rw [List.getElem?_zip_eq_some] at hk
      obtain ⟨hk1, hk2⟩ := hk
      obtain ⟨d, hd, qd⟩ := h2.atV hk2
      obtain ⟨D2, s2, q2⟩ := tell_tup (K := K) ok hq
      refine ⟨D2, tD k, d, s2, ?_, hd, q2, (qd.up g).up s2.gro⟩
      rw [List.getElem?_map] at hk1 ⊢
      cases hp : ps[i]? with
      | none => rw [hp] at hk1; cases hk1
      | some p =>
        rw [hp] at hk1
        cases hk1
        rfl
  · have hp : ps = [] := by
      have := congrArg List.length e0
      rw [List.length_zip, List.length_map] at this
      refine List.length_eq_zero_iff.mp ?_
      simp only [List.length_nil] at this
      omega
    subst hp
    refine ⟨a, o, (.dK []), rfl, (show True from trivial), h1, rfl, rfl, fun {W} D1 H1 i x v ok g en => ?_⟩
    obtain ⟨k, hk, _⟩ := en
    cases hk
end
section
variable {K : PySem.W.Frag} {W : Fx} {D : Hp} {d : Addr} {o : Obj} {u : HO} {kds ds : List PyData}
theorem Wd.at1 (h : Wd K D d o u kds ds) {D1 H1 : Hp} (ok : Ok W D1 H1) (g : Same D D1) : H1 d = some (.frz o u) := ok.sub d _ (g d _ h.at')
theorem Wd.keys (h : Wd K D d o u kds ds) : Walks K W D (ItKeys d o u) kds := fun i D1 H1 ok g =>
  ⟨fun kd hk => ⟨⟨h.at1 ok g, by rw [h.sz]; exact (List.getElem?_eq_some_iff.mp hk).1⟩, fun x H2 ⟨e, v, en⟩ => by
    subst e
    obtain ⟨D2, kd', dd, s2, e1, e2, q1, q2⟩ := h.en D1 _ i x v ok g en
    rw [hk] at e1
    cases e1
    exact ⟨D2, s2, q1⟩⟩, fun hi => ⟨h.at1 ok g, by rw [h.sz]; exact hi⟩⟩
theorem Wd.vals (h : Wd K D d o u kds ds) : Walks K W D (ItVals d o u) ds := fun i D1 H1 ok g =>
  ⟨fun dd hk => ⟨⟨h.at1 ok g, by rw [h.sz, h.sz2]; exact (List.getElem?_eq_some_iff.mp hk).1⟩, fun x H2 ⟨e, k, en⟩ => by
    subst e
    obtain ⟨D2, kd', dd', s2, e1, e2, q1, q2⟩ := h.en D1 _ i k x ok g en
    rw [hk] at e2
    cases e2
    exact ⟨D2, s2, q2⟩⟩, fun hi => ⟨h.at1 ok g, by rw [h.sz, h.sz2]; exact hi⟩⟩
theorem Wd.items (h : Wd K D d o u kds ds) : Walks K W D (ItItems d o u) ((kds.zip ds).map fun p => .tuple [p.1, p.2]) := fun i D1 H1 ok g =>
  ⟨fun dd hk => by
    rw [List.getElem?_map] at hk
    cases hz : (kds.zip ds)[i]? with
    | none => rw [hz] at hk; cases hk
    | some p =>
      rw [hz] at hk
      cases hk
      rw [List.getElem?_zip_eq_some] at hz
      refine ⟨⟨h.at1 ok g, by rw [h.sz]; exact (List.getElem?_eq_some_iff.mp hz.1).1⟩, fun x H2 ⟨T, k, v, en, ex, hT, e⟩ => ?_⟩
      subst e ex
      obtain ⟨D2, kd', dd', s2, e1, e2, q1, q2⟩ := h.en D1 _ i k v ok g en
      rw [hz.1] at e1
      rw [hz.2] at e2
      cases e1
      cases e2
      have o2 := s2.ok ok
      have s3 : Step W D2 H1 (upd D2 T (.tup [k, v])) (upd H1 T (.tup [k, v])) := .made o2 hT
      exact ⟨_, s2.trans ok s3, .tup (Or.inl (Or.inl upd_same)) (.cons (q1.up s3.gro) (.cons (q2.up s3.gro) .nil))⟩, fun hi => ⟨h.at1 ok g, by
    rw [List.length_map, List.length_zip, ← h.sz2] at hi
    rw [h.sz]
    omega⟩⟩
end
section
variable {K : PySem.W.Frag} {W : Fx} {ρ : List Sk} {κ β : Type} [DecidableEq κ] {td : TE} {e : β → PyData} {w : (List (κ × β) → Prop) → Prop}
theorem zip_self {α β γ : Type} (f : α → β) (g : α → γ) : ∀ (xs : List α), (xs.map f).zip (xs.map g) = xs.map fun x => (f x, g x)
  | [] => rfl
  | x :: xs => by
    rw [List.map_cons, List.map_cons, List.zip_cons_cons, zip_self f g xs]
    rfl
theorem i_keysK {f : κ → Key} {ek : κ → PyData} (h : EvW K W td ρ (eDicK f e) w) (hk : ∀ k, ek k = kD (f k)) : EvIW K W (iKeysU td) ρ ek (fun Q => w fun d => lt (d.map fun p => p.1) Q) := fun Q q D0 H0 D H σ en R r =>
  h _ q D0 H0 D H σ en _ fun v D1 H1 d s1 q1 ⟨ps, z, p⟩ => by
    subst z
    obtain ⟨a, o, u, rfl, wd⟩ := wdK q1
    exact ⟨a, o, u, rfl, wd.is, wd.at1 (s1.ok en.ok) (Same.refl _), r _ D1 H1 _ s1 wd.keys ⟨ps.map fun p : κ × β => p.1, by rw [List.map_map]; exact List.map_congr_left fun p _ => (hk p.1).symm, p⟩⟩
theorem i_valsK {f : κ → Key} (h : EvW K W td ρ (eDicK f e) w) : EvIW K W (iValsU td) ρ e (fun Q => w fun d => lt (d.map fun p => p.2) Q) := fun Q q D0 H0 D H σ en R r =>
  h _ q D0 H0 D H σ en _ fun v D1 H1 d s1 q1 ⟨ps, z, p⟩ => by
    subst z
    obtain ⟨a, o, u, rfl, wd⟩ := wdK q1
    exact ⟨a, o, u, rfl, wd.is, wd.at1 (s1.ok en.ok) (Same.refl _), r _ D1 H1 _ s1 wd.vals ⟨ps.map fun p : κ × β => p.2, by rw [List.map_map]; rfl, p⟩⟩
theorem i_itemsK {f : κ → Key} {ek : κ → PyData} (h : EvW K W td ρ (eDicK f e) w) (hk : ∀ k, ek k = kD (f k)) : EvIW K W (iItemsU td) ρ (eT2 ek e) (fun Q => w fun d => lt d Q) := fun Q q D0 H0 D H σ en R r =>
  h _ q D0 H0 D H σ en _ fun v D1 H1 d s1 q1 ⟨ps, z, p⟩ => by
    subst z
    obtain ⟨a, o, u, rfl, wd⟩ := wdK q1
    exact ⟨a, o, u, rfl, wd.is, wd.at1 (s1.ok en.ok) (Same.refl _), r _ D1 H1 _ s1 wd.items ⟨ps, by rw [zip_self, List.map_map]; exact List.map_congr_left fun p _ => (by show PyData.tuple [kD (f p.1), e p.2] = PyData.tuple [ek p.1, e p.2]; rw [hk]), p⟩⟩
theorem i_keysT {f : κ → List Key} {ek : κ → PyData} (h : EvW K W td ρ (eDicT f e) w) (hk : ∀ k, ek k = tD (f k)) : EvIW K W (iKeysU td) ρ ek (fun Q => w fun d => lt (d.map fun p => p.1) Q) := fun Q q D0 H0 D H σ en R r =>
  h _ q D0 H0 D H σ en _ fun v D1 H1 d s1 q1 ⟨ps, z, p⟩ => by
    subst z
    obtain ⟨a, o, u, rfl, wd⟩ := wdT q1
    exact ⟨a, o, u, rfl, wd.is, wd.at1 (s1.ok en.ok) (Same.refl _), r _ D1 H1 _ s1 wd.keys ⟨ps.map fun p : κ × β => p.1, by rw [List.map_map]; exact List.map_congr_left fun p _ => (hk p.1).symm, p⟩⟩
theorem i_valsT {f : κ → List Key} (h : EvW K W td ρ (eDicT f e) w) : EvIW K W (iValsU td) ρ e (fun Q => w fun d => lt (d.map fun p => p.2) Q) := fun Q q D0 H0 D H σ en R r =>
  h _ q D0 H0 D H σ en _ fun v D1 H1 d s1 q1 ⟨ps, z, p⟩ => by
    subst z
    obtain ⟨a, o, u, rfl, wd⟩ := wdT q1
    exact ⟨a, o, u, rfl, wd.is, wd.at1 (s1.ok en.ok) (Same.refl _), r _ D1 H1 _ s1 wd.vals ⟨ps.map fun p : κ × β => p.2, by rw [List.map_map]; rfl, p⟩⟩
theorem i_itemsT {f : κ → List Key} {ek : κ → PyData} (h : EvW K W td ρ (eDicT f e) w) (hk : ∀ k, ek k = tD (f k)) : EvIW K W (iItemsU td) ρ (eT2 ek e) (fun Q => w fun d => lt d Q) := fun Q q D0 H0 D H σ en R r =>
  h _ q D0 H0 D H σ en _ fun v D1 H1 d s1 q1 ⟨ps, z, p⟩ => by
    subst z
    obtain ⟨a, o, u, rfl, wd⟩ := wdT q1
    exact ⟨a, o, u, rfl, wd.is, wd.at1 (s1.ok en.ok) (Same.refl _), r _ D1 H1 _ s1 wd.items ⟨ps, by rw [zip_self, List.map_map]; exact List.map_congr_left fun p _ => (by show PyData.tuple [tD (f p.1), e p.2] = PyData.tuple [ek p.1, e p.2]; rw [hk]), p⟩⟩
end
end Dl

/-! ## Wells of any kind: their makers, the law over them; the mill -/
namespace Dl
open PySem PySem.Spec L2 PyProof.Rows
/-- what makes a well of the kind WF from a script -/
def sp_mk {ι : Type} (K : PySem.W.Frag) (WF : ι → Fx) : Sp := fun vs H Q _ => ∃ (s : Addr) (ns : List Int), vs = [.ref s] ∧ SqL K H s (ns.map V.int) ∧ ns.length ≤ 63 ∧
  ∀ (H' : Hp) (c : ι), Same H H' → (∀ p, (WF c).adr p → H p = none) → (WF c).inv H' → Q (WF c).root H'
open Classical in
/-- the heap without the well -/
noncomputable def woutF (W : Fx) (H : Hp) : Hp := fun p => if W.adr p then none else H p
theorem ok_woutF {W : Fx} {H : Hp} (h : W.inv H) : Ok W (woutF W H) H :=
  ⟨fun p u e => by
    unfold woutF at e
    split at e
    · cases e
    · exact e, h, fun p hp => by unfold woutF; exact if_pos hp⟩
/-- the mill: [its deep cells, its cells, a number, a count] -/
def Wm (a b c : Addr) : Fx where
  root := .ref a
  adr p := p = a ∨ p = b ∨ p = c
  inv H := a ≠ b ∧ a ≠ c ∧ b ≠ c ∧ ∃ (cs ks : List Int) (m n : Int), ks ≠ [] ∧ (ks.length ≤ 1000 ∧ cs.length ≤ 1000) ∧ H a = some (.lst [.ref b, .ref c, .int m, .int n]) ∧ H b = some (.lst (cs.map V.int)) ∧ H c = some (.lst (ks.map V.int))
  keep := fun H H' ⟨h1, h2, h3, cs, ks, m, n, h4, h5, ha, hb, hc⟩ k => ⟨h1, h2, h3, cs, ks, m, n, h4, h5, k a _ (Or.inl rfl) ha, k b _ (Or.inr (Or.inl rfl)) hb, k c _ (Or.inr (Or.inr rfl)) hc⟩
  has := fun H p ⟨_, _, _, cs, ks, m, n, _, _, ha, hb, hc⟩ hp => by
    rcases hp with rfl | rfl | rfl
    · rw [ha]; exact fun z => nomatch z
    · rw [hb]; exact fun z => nomatch z
    · rw [hc]; exact fun z => nomatch z
  hasT := fun H p xs ⟨_, _, _, cs, ks, m, n, _, _, ha, hb, hc⟩ hp => by
    rcases hp with rfl | rfl | rfl
    · rw [ha]; exact fun z => nomatch z
    · rw [hb]; exact fun z => nomatch z
    · rw [hc]; exact fun z => nomatch z
abbrev WmP : Addr × Addr × Addr → Fx := fun p => Wm p.1 p.2.1 p.2.2
/-- picks from a list of the caller's own -/
def spPO {ι : Type} (K : PySem.W.Frag) (WF : ι → Fx) : Sp := fun vs H Q _ => ∃ (c : ι) (D : Hp) (l : Addr) (xs : List V) (ds : List PyData), vs = [(WF c).root, .ref l] ∧ Ok (WF c) D H ∧ ¬ (WF c).adr l ∧ H l = some (.lst xs) ∧ DqA K D xs ds ∧ ds ≠ [] ∧ ds.length < 1000000 ∧
  ∀ v D' H' d, Step (WF c) D H D' H' → Dq K D' v d → d ∈ ds → Q v H'
theorem pickO_body {ι : Type} {K : PySem.W.Frag} {WF : ι → Fx} {c : ι} {D H : Hp} {l : Addr} {xs : List V} {ds : List PyData} {σ : L2.St} {E : XK} (hr : σ[0]? = some (some (WF c).root)) (hl : σ[1]? = some (some (.ref l))) (o : Ok (WF c) D H) (hn : ¬ (WF c).adr l) (hx : H l = some (.lst xs)) (q : DqA K D xs ds) (h0 : ds ≠ []) (h1 : ds.length < 1000000) {Q : VK}
    (k : ∀ v D' H' d, Step (WF c) D H D' H' → Dq K D' v d → d ∈ ds → Q v H') :
    tOp (rIxL K) (tVar 1) (tCall (spEW K WF 1 (fun a : Int => [eI a]) eI (fun a Q => drawW a Q)) [] E (tCons (tVar 0) (tCons (tCB (rLenQ K) (tCons (tVar 1) tNil)) tNil))) σ H Q := by
  have hlen := q.len
  have hpos : 0 < ds.length := by
    cases ds with
    | nil => exact (h0 rfl).elim
    | cons d ds => simp
  refine ⟨.ref l, hl, ?_⟩
  refine ⟨(WF c).root, hr, ?_⟩
  refine ⟨.ref l, hl, ?_⟩
  refine ⟨l, xs, rfl, Or.inl (Or.inl (Or.inl hx)), ?_⟩
  refine ⟨c, [.int xs.length], D, (xs.length : Int), fun i => 0 ≤ i ∧ i < xs.length, rfl, o, .cons (.int _) .nil, rfl, ⟨by omega, by omega, fun r a b => ⟨a, b⟩⟩, fun v D' H' y s2 q2 p2 => ?_⟩
  cases q2
  have hi : y.toNat < xs.length := by omega
  have ey : y = ((y.toNat : Nat) : Int) := by omega
  obtain ⟨u, hu⟩ : ∃ u, xs[y.toNat]? = some u := ⟨_, List.getElem?_eq_getElem hi⟩
  obtain ⟨d, hd, qd⟩ := q.atV hu
  refine ⟨l, xs, y, u, rfl, rfl, Or.inl (Or.inl (s2.off l _ hn hx)), ?_, k _ D' H' d s2 (qd.up s2.gro) (List.mem_of_getElem? hd)⟩
  rw [ey]
  exact atI_of hu
theorem w_pickO {ι : Type} {K : PySem.W.Frag} {WF : ι → Fx} {c : ι} {ρ : List Sk} {α : Type} {e : α → PyData} {xs : List α} {i j : Nat} {E : XK} (hi : ρ[i]? = some .rt) (hj : ρ[j]? = some (.own (xs.map e))) :
    EvW K (WF c) (tCall (spPO K WF) [] E (tCons (tVar i) (tCons (tVar j) tNil))) ρ e (fun Q => pickW xs Q) := fun Q q D0 H0 D H σ en R r => by
  obtain ⟨o, h1, h2⟩ := en.slot i _ hi
  have h3 : o = some (WF c).root := h2
  subst h3
  obtain ⟨o, g1, l, vs, g2, g3, g4, g5, g6, g7⟩ := en.slot j _ hj
  subst g2
  refine ⟨(WF c).root, h1, .ref l, g1, ?_⟩
  refine ⟨c, D, l, vs, xs.map e, rfl, en.ok, g5, g6, g7, by simpa using q.1, by rw [List.length_map]; exact q.2.1, fun v D' H' d s2 q2 hd => ?_⟩
  obtain ⟨x, hx, rfl⟩ := List.mem_map.mp hd
  exact r v D' H' _ s2 q2 ⟨x, rfl, q.2.2 x hx⟩
section
variable {K : PySem.W.Frag} {EX : Hp → Prop} {W : Fx} {ρ : List Sk} {a b c : Addr} {ta tb te : TE} {tr : TS} {O : Out}
theorem ev_mulRm {x : Int} (hc : -(2 ^ 64) < x ∧ x < 2 ^ 64) (ha : EvN K W ta ρ anyI) : EvN K W (tOp (rI CMul fun i j => .int (i * j)) ta (tC (.int x))) ρ anyI :=
  ev_op ha ev_int fun d1 d2 ⟨j, e2⟩ e1 => by
    subst e1
    subst e2
    exact (rd_I (Or.inr hc) fun _ => .int _).imp fun d z => ⟨_, z⟩
theorem ev_int1I {P : Int → Prop} (h : EvN K W te ρ (fun d => ∃ i, d = .int i ∧ P i)) : EvN K W (tCB rInt1 (tCons te tNil)) ρ (fun d => ∃ i, d = .int i ∧ P i) := fun D0 H0 D H σ en R r =>
  h D0 H0 D H σ en _ fun v D1 H1 d s1 q1 ⟨i, z, p⟩ => by
    subst z
    cases q1
    exact Or.inl ⟨i, rfl, r _ D1 H1 _ s1 (.int _) ⟨i, rfl, p⟩⟩
theorem ev_int1A (h : EvN K W te ρ anyI) : EvN K W (tCB rInt1 (tCons te tNil)) ρ anyI := (ev_int1I (P := fun _ => True) (h.imp fun d ⟨i, z⟩ => ⟨i, z, trivial⟩)).imp fun d ⟨i, z, _⟩ => ⟨i, z⟩
theorem ev_wm (h : ρ[0]? = some .rt) {k : Int} (hk : k = 2 ∨ k = 3) : EvN K (Wm a b c) (tOp (rIxL K) (tVar 0) (tC (.int k))) ρ anyI := fun D0 H0 D H σ e Q q => by
  obtain ⟨o, h1, h2⟩ := e.slot 0 _ h
  have h3 : o = some (.ref a) := h2
  subst h3
  obtain ⟨_, _, _, cs, ks, m, n, _, _, h4, h5, h6⟩ := e.ok.inv
  rcases hk with rfl | rfl
  · exact ⟨_, h1, a, _, 2, .int m, rfl, rfl, Or.inl (Or.inl h4), rfl, q _ D H _ (.refl e.ok) (.int m) ⟨m, rfl⟩⟩
  · exact ⟨_, h1, a, _, 3, .int n, rfl, rfl, Or.inl (Or.inl h4), rfl, q _ D H _ (.refl e.ok) (.int n) ⟨n, rfl⟩⟩
theorem st_wmset (h : ρ[0]? = some .rt) (ht : EvN K (Wm a b c) te ρ anyI) (k : StG K (Wm a b c) EX tr ρ O) : StG K (Wm a b c) EX (tSeq (tAsg te (gSub (tVar 0) (tC (.int 3)) rSetL)) tr) ρ O := fun D0 H0 D H σ Dn e kn kb kc kr kx =>
  ht D0 H0 D H σ e _ fun v D1 H1 d s1 q1 ⟨i, e1⟩ => by
    subst e1
    cases q1
    have e1 := e.step s1
    obtain ⟨o, h1, h2⟩ := e1.slot 0 _ h
    have h3 : o = some (.ref a) := h2
    subst h3
    obtain ⟨hab, hac, hbc, cs, ks, m, n, g1, g2, h4, h5, h6⟩ := e1.ok.inv
    refine ⟨_, h1, a, _, 3, 3, rfl, rfl, h4, rfl, ?_⟩
    have s2 : Step (Wm a b c) D1 H1 D1 (upd H1 a (.lst ([.ref b, .ref c, .int m, .int n].set 3 (.int i)))) := .at e1.ok (fun p hp => upd_ne fun z => hp (Or.inl z)) ⟨hab, hac, hbc, cs, ks, m, i, g1, g2, upd_same, by rw [upd_ne (Ne.symm hab)]; exact h5, by rw [upd_ne (Ne.symm hac)]; exact h6⟩
    exact k D0 H0 D1 _ σ Dn (e1.step s2) (fun a b c x g2 => kn a b c x ((s1.gro.trans s2.gro).trans g2)) (fun a b c x g2 => kb a b c x ((s1.gro.trans s2.gro).trans g2)) (fun a b c x g2 => kc a b c x ((s1.gro.trans s2.gro).trans g2)) kr kx
/-- a cell of the mill -/
theorem ev_cellm (h : ρ[0]? = some .rt) (ht : EvN K (Wm a b c) te ρ anyI) :
    EvN K (Wm a b c) (tOp (rIxL K) (tOp (rIxL K) (tVar 0) (tC (.int 1))) (tOp (rI (fun _ j => j ≠ 0) fun i j => .int (i.fmod j)) te (tCB (rLenQ K) (tCons (tOp (rIxL K) (tVar 0) (tC (.int 1))) tNil)))) ρ anyI := fun D0 H0 D H σ e Q q => by
  obtain ⟨o, h1, h2⟩ := e.slot 0 _ h
  have h3 : o = some (.ref a) := h2
  subst h3
  obtain ⟨_, _, _, _, _, _, _, _, _, h4, _, _⟩ := e.ok.inv
  refine ⟨_, h1, a, _, 1, .ref c, rfl, rfl, Or.inl (Or.inl h4), rfl, ?_⟩
  refine ht D0 H0 D H σ e _ fun v D1 H1 d s1 q1 ⟨i, e1⟩ => ?_
  subst e1
  cases q1
  have e1 := e.step s1
  obtain ⟨_, _, _, cs, ks, m, n, g1, g2, h4, h5, h6⟩ := e1.ok.inv
  refine ⟨_, h1, a, _, 1, .ref c, rfl, rfl, Or.inl (Or.inl h4), rfl, ?_⟩
  refine ⟨c, _, rfl, Or.inl (Or.inl (Or.inl h6)), ?_⟩
  have hpos : 0 < ks.length := by
    cases ks with
    | nil => exact (g1 rfl).elim
    | cons x xs => simp
  refine ⟨i, _, rfl, rfl, by rw [List.length_map]; omega, ?_⟩
  have r0 : 0 ≤ i.fmod (ks.length : Int) := Int.fmod_nonneg_of_pos i (by omega)
  have r1 : i.fmod (ks.length : Int) < ks.length := Int.fmod_lt_of_pos i (by omega)
  have er : i.fmod (ks.length : Int) = (((i.fmod (ks.length : Int)).toNat : Nat) : Int) := by omega
  obtain ⟨u, hu⟩ : ∃ u, ks[(i.fmod (ks.length : Int)).toNat]? = some u := ⟨_, List.getElem?_eq_getElem (by omega)⟩
  refine ⟨c, _, _, .int u, rfl, rfl, Or.inl (Or.inl h6), ?_, q _ D1 H1 _ s1 (.int u) ⟨u, rfl⟩⟩
  rw [List.length_map, er]
  exact atI_of (by rw [List.getElem?_map, hu]; rfl)
end
end Dl

/-! ## A list of one's own that is lent for one expression -/
namespace Dl
open PySem PySem.Spec L2 PyProof.Rows
/-- data without lists -/
inductive NoL : PyData → Prop
  | non : NoL .none
  | bl (b : Bool) : NoL (.bool b)
  | int (i : Int) : NoL (.int i)
  | str (x : Str) : NoL (.str x)
  | tup {ds : List PyData} : (∀ d ∈ ds, NoL d) → NoL (.tuple ds)
  | dic {kvs : List (PyData × PyData)} : (∀ p ∈ kvs, NoL p.2) → NoL (.dict kvs)
def delH (D : Hp) (l : Addr) : Hp := fun p => if p = l then none else D p
theorem delH_ne {D : Hp} {l p : Addr} (h : p ≠ l) : delH D l p = D p := if_neg h
theorem delH_same {D : Hp} {l : Addr} : delH D l l = none := if_pos rfl
section
variable {K : PySem.W.Frag} {D : Hp} {l : Addr} {xs : List V}
mutual
theorem Dq.del (hl : D l = some (.lst xs)) : ∀ {d : PyData} {v : V}, Dq K D v d → NoL d → Dq K (delH D l) v d
  | _, _, .non, _ => .non
  | _, _, .bl b, _ => .bl b
  | _, _, .int i, _ => .int i
  | _, _, .str x, _ => .str x
  | _, _, .lst _ _, h => by cases h
  | _, _, @Dq.tup _ _ a ys _ h1 h2, h => by
    refine .tup (h1.imp (fun r => ?_) id) (DqA.del hl h2 (by cases h with | tup h => exact h))
    rcases r with r | ⟨o, r⟩
    · exact Or.inl (by rw [delH_ne (fun z => by rw [z, hl] at r; cases r)]; exact r)
    · exact Or.inr ⟨o, by rw [delH_ne (fun z => by rw [z, hl] at r; cases r)]; exact r⟩
  | _, _, @Dq.dic _ _ a ks ys ds h1 e h2, h => by
    refine .dic ?_ e (DqA.del hl h2 fun d hd => ?_)
    · rcases h1 with ⟨o, r⟩ | ⟨z0, o, r⟩
      · exact Or.inl ⟨o, by rw [delH_ne (fun z => by rw [z, hl] at r; cases r)]; exact r⟩
      · exact Or.inr ⟨z0, o, by rw [delH_ne (fun z => by rw [z, hl] at r; cases r)]; exact r⟩
    · cases h with
      | dic h =>
        obtain ⟨i, hi⟩ := List.getElem?_of_mem hd
        have hl1 := h2.len
        have hlt : i < (ks.map kD).length := by
          have := (List.getElem?_eq_some_iff.mp hi).1
          rw [List.length_map]
          omega
        exact h (_, d) (List.mem_of_getElem? (List.getElem?_zip_eq_some.mpr ⟨List.getElem?_eq_getElem hlt, hi⟩))
  | _, _, @Dq.dicT _ _ a ks ys ds h1 e h2, h => by
    refine .dicT ?_ e (DqA.del hl h2 fun d hd => ?_)
    · rcases h1 with ⟨o, r⟩ | ⟨z0, o, r⟩
      · exact Or.inl ⟨o, by rw [delH_ne (fun z => by rw [z, hl] at r; cases r)]; exact r⟩
      · exact Or.inr ⟨z0, o, by rw [delH_ne (fun z => by rw [z, hl] at r; cases r)]; exact r⟩
    · cases h with
      | dic h =>
        obtain ⟨i, hi⟩ := List.getElem?_of_mem hd
        have hl1 := h2.len
        have hlt : i < (ks.map tD).length := by
          have := (List.getElem?_eq_some_iff.mp hi).1
          rw [List.length_map]
          omega
        exact h (_, d) (List.mem_of_getElem? (List.getElem?_zip_eq_some.mpr ⟨List.getElem?_eq_getElem hlt, hi⟩))
theorem DqA.del (hl : D l = some (.lst xs)) : ∀ {ds : List PyData} {vs : List V}, DqA K D vs ds → (∀ d ∈ ds, NoL d) → DqA K (delH D l) vs ds
  | _, _, .nil, _ => .nil
  | _, _, .cons h1 h2, h => .cons (Dq.del hl h1 (h _ List.mem_cons_self)) (DqA.del hl h2 fun d hd => h d (List.mem_cons_of_mem _ hd))
end
end
section
variable {K : PySem.W.Frag} {W : Fx} {EX : Hp → Prop} {ρ : List Sk} {α β : Type} {te : TE} {tt : TT} {i : Nat} {ds : List PyData}
theorem Env.lend {D0 H0 D H : Hp} {σ : L2.St} (e : Env K W D0 H0 D H σ ρ) (hρ : ρ[i]? = some (.own ds)) : ∃ l xs, D l = none ∧ H l = some (.lst xs) ∧ ¬ W.adr l ∧ Env K W D0 H0 (upd D l (.lst xs)) H σ (ρ.set i (.dat (.list ds))) := by
  obtain ⟨o, q1, l, xs, q2, h3, h4, h5, h6, h7⟩ := e.slot i _ hρ
  subst q2
  have hi : i < ρ.length := (List.getElem?_eq_some_iff.mp hρ).1
  have gr : Same D (upd D l (.lst xs)) := same_new h3
  refine ⟨l, xs, h3, h6, h5, ⟨e.ok0, e.st.told h4 h3 h6, fun j sk hj => ?_, fun a b m sh' th es fs h1 h2 h3' h4' => ?_⟩⟩
  · by_cases hij : i = j
    · subst hij
      rw [List.getElem?_set_self hi] at hj
      cases hj
      exact ⟨_, q1, .ref l, rfl, .lst (Or.inl (Or.inl upd_same)) (h7.up gr)⟩
    · rw [List.getElem?_set_ne hij] at hj
      obtain ⟨o, p1, p2⟩ := e.slot j sk hj
      refine ⟨o, p1, ?_⟩
      cases sk with
      | any => trivial
      | rt => exact p2
      | dat d =>
        obtain ⟨v, z, q⟩ := p2
        exact ⟨v, z, q.up gr⟩
      | ob sh2 es =>
        obtain ⟨m, ys, e1, r1, r2, r3, r4, r5⟩ := p2
        subst e1
        have hm : m ≠ l := fun z => hij (e.dist i j l _ sh2 ds es hρ hj q1 (by rw [← z]; exact p1))
        exact ⟨m, ys, rfl, by rw [upd_ne hm]; exact r1, r2, r3, r4, r5.up gr⟩
      | dd f =>
        obtain ⟨a, kvs, z, r1, r2⟩ := p2
        exact ⟨a, kvs, z, same_rd gr r1, fun k => (r2 k).imp id fun ⟨v, d, c1, c2, c3⟩ => ⟨v, d, c1, c2, c3.up gr⟩⟩
  · have own_of : ∀ (j : Nat) sh2 fs, (ρ.set i (.dat (.list ds)))[j]? = some (.ob sh2 fs) → ρ[j]? = some (.ob sh2 fs) := fun j sh2 fs h => by
      by_cases hij : i = j
      · subst hij
        rw [List.getElem?_set_self hi] at h
        cases h
      · rw [List.getElem?_set_ne hij] at h
        exact h
    exact e.dist a b m sh' th es fs (own_of a _ _ h1) (own_of b _ _ h2) h3' h4'
theorem Step.lent {D H D' H' : Hp} {l : Addr} {xs : List V} (h : D l = none) (s : Step W (upd D l (.lst xs)) H D' H') : Step W D H (delH D' l) H' ∧ D' l = some (.lst xs) :=
  ⟨⟨fun p o e => by
      have hp : p ≠ l := fun z => by rw [z, h] at e; cases e
      rw [delH_ne hp]
      exact s.gro p o (by rw [upd_ne hp]; exact e), fun p o e => by
      by_cases hp : p = l
      · rw [hp, delH_same] at e; cases e
      · rw [delH_ne hp] at e
        exact s.sub p o e, s.off, fun p h1 h2 h3 => by
      by_cases hp : p = l
      · rw [hp]; exact delH_same
      · rw [delH_ne hp]
        exact s.new p (by rw [upd_ne hp]; exact h1) h2 h3, s.inv⟩, s.gro l _ upd_same⟩
theorem ev_lend {P : PyData → Prop} (hρ : ρ[i]? = some (.own ds)) (h : EvN K W te (ρ.set i (.dat (.list ds))) P) (hf : ∀ d, P d → NoL d) : EvN K W te ρ P := fun D0 H0 D H σ e Q q => by
  obtain ⟨l, xs, h1, h2, h3, e2⟩ := e.lend hρ
  refine h D0 H0 _ H σ e2 Q fun v D' H' d s q1 p => ?_
  obtain ⟨s2, hl⟩ := s.lent h1
  exact q v _ H' d s2 (q1.del hl (hf d p)) p
theorem evf_lend {P : List PyData → Prop} (hρ : ρ[i]? = some (.own ds)) (h : EvF K W te (ρ.set i (.dat (.list ds))) P) (hf : ∀ ds, P ds → ∀ d ∈ ds, NoL d) : EvF K W te ρ P := fun D0 H0 D H σ e Q q => by
  obtain ⟨l, xs, h1, h2, h3, e2⟩ := e.lend hρ
  refine h D0 H0 _ H σ e2 Q fun m vs D' H' es s hn hd hm q1 p => ?_
  obtain ⟨s2, hl⟩ := s.lent h1
  have hml : m ≠ l := fun z => by rw [z, h2] at hn; cases hn
  exact q m vs _ H' es s2 hn (by rw [delH_ne hml]; exact hd) hm (q1.del hl (hf es p)) p
theorem et_lend {P : Bool → Prop} (hρ : ρ[i]? = some (.own ds)) (h : EvT K W tt (ρ.set i (.dat (.list ds))) P) : EvT K W tt ρ P := fun D0 H0 D H σ e Q q => by
  obtain ⟨l, xs, h1, h2, h3, e2⟩ := e.lend hρ
  refine h D0 H0 _ H σ e2 Q fun b D' H' s p => ?_
  exact q b _ H' (s.lent h1).1 p
variable {e : α → PyData} {er : β → PyData} {xs : List α}
theorem evw_lend {w : (β → Prop) → Prop} (hρ : ρ[i]? = some (.own (xs.map e))) (h : EvW K W te (ρ.set i (.dat (eLst e xs))) er w) (hf : ∀ y, NoL (er y)) : EvW K W te ρ er w := fun Q q => ev_lend hρ (h Q q) fun d ⟨y, z, _⟩ => by rw [z]; exact hf y
theorem evfw_lend {w : (List β → Prop) → Prop} (hρ : ρ[i]? = some (.own (xs.map e))) (h : EvFW K W te (ρ.set i (.dat (eLst e xs))) er w) (hf : ∀ y, NoL (er y)) : EvFW K W te ρ er w := fun Q q => evf_lend hρ (h Q q) fun ds ⟨ys, z, _⟩ d hd => by
  rw [z] at hd
  obtain ⟨y, _, rfl⟩ := List.mem_map.mp hd
  exact hf y
theorem etw_lend {w : (Bool → Prop) → Prop} (hρ : ρ[i]? = some (.own (xs.map e))) (h : EvTW K W tt (ρ.set i (.dat (eLst e xs))) w) : EvTW K W tt ρ w := fun Q q => et_lend hρ (h Q q)
end
theorem nol_I : ∀ y, NoL (eI y) := fun _ => .int _
theorem nol_S : ∀ y, NoL (eS y) := fun _ => .str _
theorem nol_B : ∀ y, NoL (eB y) := fun _ => .bl _
theorem nol_K : ∀ y, NoL (eK y)
  | .inl _ => .int _
  | .inr _ => .str _
theorem nol_T2 {α β : Type} {a : α → PyData} {b : β → PyData} (ha : ∀ y, NoL (a y)) (hb : ∀ y, NoL (b y)) : ∀ y, NoL (eT2 a b y) := fun y => .tup fun d hd => by
  simp only [List.mem_cons, List.not_mem_nil, or_false] at hd
  rcases hd with rfl | rfl
  · exact ha _
  · exact hb _
theorem nol_T3 {α β γ : Type} {a : α → PyData} {b : β → PyData} {c : γ → PyData} (ha : ∀ y, NoL (a y)) (hb : ∀ y, NoL (b y)) (hc : ∀ y, NoL (c y)) : ∀ y, NoL (eT3 a b c y) := fun y => .tup fun d hd => by
  simp only [List.mem_cons, List.not_mem_nil, or_false] at hd
  rcases hd with rfl | rfl | rfl
  · exact ha _
  · exact hb _
  · exact hc _
theorem nol_Tup {α : Type} {a : α → PyData} (ha : ∀ y, NoL (a y)) : ∀ y, NoL (eTup a y) := fun y => .tup fun d hd => by
  obtain ⟨x, _, rfl⟩ := List.mem_map.mp hd
  exact ha x
/-- the last row of a mill's making -/
theorem mill_end {K : PySem.W.Frag} {D0 H0 D H : Hp} {σ : L2.St} {ρ : List Sk} {i j : Nat} (cs ks : List Int) {t3 t4 : TE} {w3 w4 : (Int → Prop) → Prop} (e : Env K Fx.non D0 H0 D H σ ρ) (hi : ρ[i]? = some (.own (List.map eI cs))) (hj : ρ[j]? = some (.own (List.map eI ks))) (hij : i ≠ j)
    (hks : ks ≠ []) (hl : ks.length ≤ 1000 ∧ cs.length ≤ 1000) (h3 : EvW K Fx.non t3 ρ eI w3) (p3 : w3 fun _ => True) (h4 : EvW K Fx.non t4 ρ eI w4) (p4 : w4 fun _ => True) {Q : VK}
    (q : ∀ (H' : Hp) (c : Addr × Addr × Addr), Same H0 H' → (∀ p, (WmP c).adr p → H0 p = none) → (WmP c).inv H' → Q (WmP c).root H') : tLst (tCons (tVar i) (tCons (tVar j) (tCons t3 (tCons t4 tNil)))) σ H Q := by
  obtain ⟨o, g1, l, xs, g2, g3, g4, g5, g6, g7⟩ := e.slot i _ hi
  subst g2
  have hx := g7.isInts cs
  subst hx
  obtain ⟨o, f1, m, ys, f2, f3, f4, f5, f6, f7⟩ := e.slot j _ hj
  subst f2
  have hy := f7.isInts ks
  subst hy
  have hlm : l ≠ m := fun z => hij (e.dist i j l _ _ _ _ hi hj g1 (by rw [z]; exact f1))
  refine ⟨.ref l, g1, .ref m, f1, ?_⟩
  refine h3 _ p3 D0 H0 D H σ e _ fun v2 D2 H2 d2 s2 q2 z2 => ?_
  obtain ⟨a, rfl, _⟩ := z2
  cases q2
  refine h4 _ p4 D0 H0 D2 H2 σ (e.step s2) _ fun v3 D3 H3 d3 s3 q3 z3 => ?_
  obtain ⟨b, rfl, _⟩ := z3
  cases q3
  have s23 := s2.trans e.ok s3
  refine ⟨by show 4 ≤ _; rw [sizeLine_eq]; decide, fun p hp => ?_⟩
  have l3 : H3 l = some (.lst (cs.map V.int)) := s23.off l _ (fun z => z) g6
  have m3 : H3 m = some (.lst (ks.map V.int)) := s23.off m _ (fun z => z) f6
  have nlp : l ≠ p := ne_of_none l3 hp
  have nmp : m ≠ p := ne_of_none m3 hp
  have s0 := e.st.trans e.ok0 s23
  refine q _ (p, l, m) (fun b u z => ?_) (fun r hr => ?_) ⟨Ne.symm nlp, Ne.symm nmp, hlm, cs, ks, a, b, hks, hl, upd_same, by rw [upd_ne nlp]; exact l3, by rw [upd_ne nmp]; exact m3⟩
  · have hb := s0.off b u (fun z => z) z
    rw [upd_ne (ne_of_none hb hp)]
    exact hb
  · rcases hr with rfl | rfl | rfl
    · exact fresh_of e.ok0 s0 hp
    · exact g4
    · exact f4
theorem run4 {S1 S2 S3 S4 R : TS} {D : Ends} {σ : L2.St} {H : Hp} (h : tSeq S1 (tSeq S2 (tSeq S3 (tSeq S4 tNext))) { D with nx := R D } σ H) : tSeq S1 (tSeq S2 (tSeq S3 (tSeq S4 R))) D σ H := h
end Dl

/-! ## sorted lists of tuples whose items agree in type as far as they are compared -/
namespace Dl
open PySem PySem.Spec PyProof.Rows L2
def cmpK : List Key → List Key → Prop
  | a :: as, b :: bs => isTx a = isTx b ∧ (a = b → cmpK as bs)
  | _, _ => True
theorem relK_inj : ∀ {a b : Key} {u : Value}, RelV (kV a) u → RelV (kV b) u → a = b
  | .inl i, .inl j, u, h1, h2 => by
    obtain ⟨t, rfl⟩ := h1
    obtain ⟨t', e⟩ := h2
    cases e
    rfl
  | .inr i, .inr j, u, h1, h2 => by
    obtain ⟨t, rfl⟩ := h1
    obtain ⟨t', e⟩ := h2
    cases e
    rfl
  | .inl i, .inr j, u, h1, h2 => by
    obtain ⟨t, rfl⟩ := h1
    obtain ⟨t', e⟩ := h2
    cases e
  | .inr i, .inl j, u, h1, h2 => by
    obtain ⟨t, rfl⟩ := h1
    obtain ⟨t', e⟩ := h2
    cases e
theorem valsK_inj : ∀ {ks js : List Key} {us : List Value}, Vals (ks.map kV) us → Vals (js.map kV) us → ks = js
  | [], [], _, _, _ => rfl
  | [], _ :: _, _, h1, h2 => by
    cases h1
    cases h2
  | _ :: _, [], _, h1, h2 => by
    cases h2
    cases h1
  | k :: ks, j :: js, _, h1, h2 => by
    rw [List.map_cons] at h1 h2
    cases h1 with
    | cons a1 a2 =>
      cases h2 with
      | cons b1 b2 => rw [relK_inj a1 b1, valsK_inj a2 b2]
section
variable {prog : Program} {w : World} {A : Around} {E : Value → Shared → Prop} {s : Shared}
theorem tup_lexA {b fin : Bool} {Q : Bool → Shared → Prop} : ∀ (ks js : List Key) (ps qs : List Value) (i : Nat),
    Vals (ks.map kV) ps → Vals (js.map kV) qs → cmpK ks js → fin = decide (ps.length < qs.length) → Q (lexLt itemOrd (itKs ks) (itKs js)) s → PySem.W.KatLex prog w A b fin Q (ps.zip qs) i s
  | [], [], _, _, i, ha, hb, _, hf, h => by
    cases ha
    cases hb
    have e : fin = false := by rw [hf]; rfl
    subst e
    exact PySem.W.kat_nil h
  | [], j :: js, _, _, i, ha, hb, _, hf, h => by
    rw [List.map_cons] at hb
    cases ha
    cases hb with
    | cons b1 b2 =>
      have e : fin = true := by rw [hf]; exact decide_eq_true (Nat.succ_pos _)
      subst e
      exact PySem.W.kat_nil h
  | k :: ks, [], _, _, i, ha, hb, _, hf, h => by
    rw [List.map_cons] at ha
    cases hb
    cases ha with
    | cons a1 a2 =>
      have e : fin = false := by rw [hf]; exact decide_eq_false (Nat.not_lt_zero _)
      subst e
      exact PySem.W.kat_nil h
  | k :: ks, j :: js, _, _, i, ha, hb, hc, hf, h => by
    rw [List.map_cons] at ha hb
    cases ha with
    | @cons _ p _ ps a1 a2 =>
      cases hb with
      | @cons _ q _ qs b1 b2 =>
        have hf' : fin = decide (ps.length < qs.length) := by
          rw [hf]; simp only [List.length_cons, Nat.add_lt_add_iff_right]
        obtain ⟨hty, hcc⟩ := hc
        cases k with
        | inl n =>
          cases j with
          | inr y => cases hty
          | inl m =>
            obtain ⟨t, rfl⟩ := a1
            obtain ⟨u, rfl⟩ := b1
            refine PySem.W.kat_cons (wpAny_eqBool_int ?_)
            refine PySem.W.kat_go (fun e => PySem.W.kat_yes ?_) (fun e => PySem.W.kat_no ?_)
            · have hnm : n = m := by simpa using e
              subst hnm
              have h' : Q (lexLt itemOrd (Sum.inl n :: itKs ks) (Sum.inl n :: itKs js)) s := h
              rw [lex_self] at h'
              exact tup_lexA ks js ps qs (i + 1) a2 b2 (hcc rfl) hf' h'
            · have hnm : ¬ n = m := by simpa using e
              have h' : Q (lexLt itemOrd (Sum.inl n :: itKs ks) (Sum.inl m :: itKs js)) s := h
              rw [lex_diff (fun x => hnm (Sum.inl.inj x))] at h'
              exact oneLt_any_int h'
        | inr x =>
          cases j with
          | inl y => cases hty
          | inr y =>
            obtain ⟨t, rfl⟩ := a1
            obtain ⟨u, rfl⟩ := b1
            refine PySem.W.kat_cons (wpAny_eqBool_str ?_)
            refine PySem.W.kat_go (fun e => PySem.W.kat_yes ?_) (fun e => PySem.W.kat_no ?_)
            · have hxy : x = y := of_decide_eq_true e
              subst hxy
              have h' : Q (lexLt itemOrd (Sum.inr x.cps.toList :: itKs ks) (Sum.inr x.cps.toList :: itKs js)) s := h
              rw [lex_self] at h'
              exact tup_lexA ks js ps qs (i + 1) a2 b2 (hcc rfl) hf' h'
            · have hxy : ¬ x = y := of_decide_eq_false e
              have hne : x.cps.toList ≠ y.cps.toList := fun hl => hxy (str_inj hl)
              have h' : Q (lexLt itemOrd (Sum.inr x.cps.toList :: itKs ks) (Sum.inr y.cps.toList :: itKs js)) s := h
              rw [lex_diff (fun z => hne (Sum.inr.inj z))] at h'
              exact oneLt_any_str h'
end
/-- the tuple v is ks -/
def TupX (h : Heap) (v : Value) (ks : List Key) : Prop := ∃ t o its n, v = .ref t ∧ h.get? t = some o ∧ o.cls = .type "tuple" ∧ o.data = .seq its n ∧ Vals (ks.map kV) its.toList
theorem TupX.inj {h : Heap} {v : Value} {ks js : List Key} (a : TupX h v ks) (b : TupX h v js) : ks = js := by
  obtain ⟨t, o, its, n, rfl, ho, hc, hd, hv⟩ := a
  obtain ⟨t', o', its', n', e, ho', hc', hd', hv'⟩ := b
  cases e
  rw [ho] at ho'
  cases ho'
  rw [hd] at hd'
  cases hd'
  exact valsK_inj hv hv'
open Classical in
noncomputable def keyX (h : Heap) (dom : List (List Key)) (v : Value) : Option (List (Int ⊕ List Nat)) := if hh : ∃ ks, ks ∈ dom ∧ TupX h v ks then some (itKs hh.choose) else none
theorem keyX_of {h : Heap} {dom : List (List Key)} {v : Value} {ks : List Key} (hd : ks ∈ dom) (t : TupX h v ks) : keyX h dom v = some (itKs ks) := by
  have hh : ∃ ks, ks ∈ dom ∧ TupX h v ks := ⟨ks, hd, t⟩
  unfold keyX
  rw [dif_pos hh, hh.choose_spec.2.inj t]
theorem keyX_some {h : Heap} {dom : List (List Key)} {v : Value} {as : List (Int ⊕ List Nat)} (e : keyX h dom v = some as) : ∃ ks, ks ∈ dom ∧ TupX h v ks ∧ as = itKs ks := by
  unfold keyX at e
  split at e
  · rename_i hh
    exact ⟨hh.choose, hh.choose_spec.1, hh.choose_spec.2, (Option.some.inj e).symm⟩
  · cases e
@[reducible] noncomputable def kindX (h : Heap) (dom : List (List Key)) : PyProof.Rows.KeyKind where
  toKeyOrd := listOrd itemOrd
  keyOf := keyX h dom
  dflt := []
/-- sorted(xs), xs tuples of dom, comparable ones -/
def rSortX (K : PySem.W.Frag) : List V → Hp → VK → Prop := fun vs H Q => ∃ (a : Addr) (xs : List V) (dom : List (List Key)) (b0 : Bool), vs = [V.ref a] ∧ SqL K H a xs ∧ (∀ x ∈ xs, ∃ ks, TupM K H x ks ∧ ks ∈ dom) ∧ (∀ ks ∈ dom, ∃ k r, ks = k :: r ∧ isTx k = b0) ∧ (∀ ks ∈ dom, ∀ js ∈ dom, cmpK ks js) ∧
  ∀ (ys : List V) (p : Addr), ys.Perm xs → ys.Pairwise (fun x y => ∀ n m, TupM K H x n → n ∈ dom → TupM K H y m → m ∈ dom → lexLt itemOrd (itKs m) (itKs n) = false) → H p = none → Q (.ref p) (upd H p (.lst ys))
section
variable {X : Cx}
theorem tupX_of {pins : List (Addr × Obj)} {σ : L2.St} {H : Hp} {s : Shared} (I : Inv X pins σ H s) {t : Addr} {ks : List Key} (h : SqT X.K H t (ks.map kV)) : TupX s.heap (.ref t) ks := by
  obtain ⟨o, its, n, ho, hc, hd, rv⟩ := tupM_raw I h
  exact ⟨t, o, its, n, rfl, ho, hc, hd, rv⟩
theorem cr_sortX : CallR X (.builtin "sorted") (rSortX X.K) := by
  intro pins s σ H vs us Q I r h
  obtain ⟨a, xs, dom, b0, rfl, hs, hx, hd0, hcmp, q⟩ := h
  obtain ⟨its, rv, hl, hz⟩ := I.list hs
  rw [Vals.ref1 r]
  obtain ⟨e1, e2⟩ := bkV_refs rv fun x m => by
    obtain ⟨ns, ⟨t, e, _⟩, _⟩ := hx x m
    exact ⟨t, e⟩
  have has : ∀ v ∈ its, ∃ t ks, v = .ref t ∧ SqT X.K H t (ks.map kV) ∧ ks ∈ dom := fun v hv => by
    obtain ⟨t, rfl⟩ := e2 v hv
    have hm : V.ref t ∈ xs := by
      rw [e1]
      exact List.mem_map.mpr ⟨_, hv, rfl⟩
    obtain ⟨ks, ⟨t', e, ht⟩, hb⟩ := hx _ hm
    cases e
    exact ⟨t, ks, rfl, ht, hb⟩
  obtain ⟨fs, ht⟩ := tupsM_of (h := s.heap) (shape := fun _ => b0) (vs := its) fun v hv => by
    obtain ⟨t, ks, rfl, h1, h2⟩ := has v hv
    obtain ⟨k, rr, rfl, hk⟩ := hd0 ks h2
    obtain ⟨o, its', n, ho, hc, hd, rv'⟩ := tupM_raw I h1
    rw [List.map_cons] at rv'
    generalize hl' : its'.toList = l at rv'
    cases rv' with
    | @cons _ f _ fs h1' h2' =>
      have e0 : its'[0]? = some f := by rw [← Array.getElem?_toList, hl']; rfl
      refine ⟨f, t, o, its', n, rfl, ho, hc, hd, e0, fun e => ?_, fun e => ?_⟩
      · cases k with
        | inl i =>
          obtain ⟨tk, e3⟩ := h1'
          exact ⟨i, tk, e3⟩
        | inr z =>
          exact Bool.noConfusion (show true = false from hk.trans e)
      · cases k with
        | inr i =>
          obtain ⟨tk, e3⟩ := h1'
          exact ⟨i, tk, e3⟩
        | inl z =>
          exact Bool.noConfusion (show false = true from hk.trans e)
  have lt : ∀ s₂ : Shared, G.KeepsTups s.heap s₂.heap → G.LtAt X.prog X.w s₂ (kindX s.heap dom) (tuples' true) := fun s₂ k A E x y as bs Q hx hy hq => by
    obtain ⟨ks, d1, ⟨t, o, i1, n, rfl, ho, hc, hd, hv⟩, rfl⟩ := keyX_some hx
    obtain ⟨js, d2, ⟨t', o', i2, n', rfl, ho', hc', hd', hv'⟩, rfl⟩ := keyX_some hy
    exact PySem.W.kat_lt (k t o ho hc) hd (k t' o' ho' hc') hd' (tup_lexA ks js i1.toList i2.toList 0 hv hv' (hcmp ks d1 js d2) (by rw [Array.length_toList, Array.length_toList]) hq)
  have keys : KeysOf (kindX s.heap dom) (pairsOf its) := fun p hp => by
    rw [pairsOf_toList] at hp
    obtain ⟨e, hm⟩ := mem_zip_self hp
    obtain ⟨t, ks, e3, h1, h2⟩ := has p.1 hm
    exact ⟨_, by rw [e3]; exact keyX_of h2 (tupX_of I h1)⟩
  refine G.sortedG hl.isList keys lt (fun h2 _ _ s₂ _ k hq => tup_kind (s := s₂) (by rw [G.TupsOf.length ht]; omega) (G.TupsOf.keep k ht) hq) (by rw [← rv.length]; exact hz) fun st' hp hsort _ => ?_
  have hpl : (arrOf st').toList.Perm (its.zip its) := by rw [← pairsOf_toList]; exact Array.perm_iff_toList_perm.mp hp
  have same : ∀ p ∈ (arrOf st').toList, p.1 = p.2 ∧ p.1 ∈ its := fun p hp' => mem_zip_self (hpl.mem_iff.mp hp')
  have hout : ((arrOf st').map (·.2)).toList = (arrOf st').toList.map (·.2) := Array.toList_map
  have pout : ((arrOf st').map (·.2)).toList.Perm its := by
    rw [hout]
    have z := hpl.map Prod.snd
    rw [List.map_snd_zip (Nat.le_refl _)] at z
    exact z
  obtain ⟨ep, he'⟩ := PyProof.Rows.sortedAll_at s.heap its ((arrOf st').map (·.2))
  have h3 : ∀ u ∈ ((arrOf st').map (·.2)).toList, ∃ a, u = Value.ref a := fun u hu => e2 u (pout.mem_iff.mp hu)
  have hpp : (((arrOf st').map (·.2)).toList.map bkV).Perm xs := by
    rw [e1]
    exact pout.map bkV
  have hlen : (((arrOf st').map (·.2)).toList.map bkV).length ≤ sizeLine := by
    rw [hpp.length_eq]
    exact hz
  refine ⟨.ref _, upd H (s.heap.objs.size + 1) (.lst (((arrOf st').map (·.2)).toList.map bkV)), I.laid (t' := s.toks) (fun _ _ => PyProof.Rows.sortedAll_old) (Nat.le_succ _) ⟨hlen, ((arrOf st').map (·.2)).toList, ep, bkV_vals h3, by rw [Array.toArray_toList]; exact he'⟩, rfl, q _ _ hpp ?_ (I.hok.fresh (Nat.le_succ _))⟩
  rw [List.pairwise_map, hout, List.pairwise_map, List.pairwise_iff_getElem]
  intro i j hi hj hij n m hn sn hm sm
  have hi' : i < (arrOf st').size := by simpa using hi
  have hj' : j < (arrOf st').size := by simpa using hj
  have k1 := hsort i j (Nat.le_of_lt hij) (by rw [← hp.size_eq]; exact hj')
  obtain ⟨t, et, ht1⟩ := hn
  obtain ⟨t', et', ht2⟩ := hm
  have eu := bkV_ref et
  have ev := bkV_ref et'
  have g1 := (same _ (List.getElem_mem hi)).1
  have g2 := (same _ (List.getElem_mem hj)).1
  have kk : ∀ (k : Nat) (hk : k < (arrOf st').size) (t : Addr) (ks : List Key), (arrOf st')[k].1 = .ref t → SqT X.K H t (ks.map kV) → ks ∈ dom → KK (kindX s.heap dom) (arrOf st') k = itKs ks := fun k hk t ks e hT sk => by
    unfold KK
    rw [getElem?_pos (arrOf st') k hk]
    show (keyX s.heap dom (arrOf st')[k].1).getD _ = _
    rw [e, keyX_of sk (tupX_of I hT)]
    rfl
  rw [kk i hi' t n (by rw [Array.getElem_toList] at g1 eu; rw [g1]; exact eu) ht1 sn, kk j hj' t' m (by rw [Array.getElem_toList] at g2 ev; rw [g2]; exact ev) ht2 sm] at k1
  exact k1
end
section
variable {K : PySem.W.Frag} {W : Fx} {ρ : List Sk} {α : Type} {te : TE} {e : α → PyData}
theorem pw_leX {D : Hp} {dom : List (List Key)} : ∀ {ys : List V} {mss : List (List Key)}, DqA K D ys (mss.map tupM) → (∀ ms ∈ mss, ms ∈ dom) →
    ys.Pairwise (fun x y => ∀ n m, TupM K D x n → n ∈ dom → TupM K D y m → m ∈ dom → lexLt itemOrd (itKs m) (itKs n) = false) → mss.Pairwise fun a b => leM a b = true := fun {ys mss} h hb hp => by
  rw [List.pairwise_iff_getElem] at hp ⊢
  intro i j hi hj hij
  have at' : ∀ {k : Nat} (hk : k < mss.length), ∃ hk' : k < ys.length, TupM K D ys[k] mss[k] := fun {k} hk => by
    have e : (mss.map tupM)[k]? = some (tupM mss[k]) := by rw [List.getElem?_map, List.getElem?_eq_getElem hk]; rfl
    obtain ⟨v, e2, q⟩ := h.at e
    have hk' := (List.getElem?_eq_some_iff.mp e2).1
    refine ⟨hk', ?_⟩
    have ev : ys[k] = v := (List.getElem?_eq_some_iff.mp e2).2
    rw [ev]
    obtain ⟨ns, m, t⟩ := DqA.tupsM (nss := [mss[k]]) (xs := [v]) (.cons q .nil) v (by simp)
    rw [List.mem_singleton.mp m] at t
    exact t
  obtain ⟨hi', t1⟩ := at' hi
  obtain ⟨hj', t2⟩ := at' hj
  exact leM_iff.mpr (hp i j hi' hj' hij _ _ t1 (hb _ (List.getElem_mem hi)) t2 (hb _ (List.getElem_mem hj)))
/-- sorted: items that agree in type as far as they are compared -/
def sortXW {α : Type} (f : α → List Key) (xs : List α) (Q : List α → Prop) : Prop := (∀ a ∈ xs, ∀ b ∈ xs, cmpK (f a) (f b)) ∧ Q (srtK f xs)
theorem w_sortX {w : (List α → Prop) → Prop} (f : α → List Key) (b0 : Bool) (h : EvLW K W te ρ e w) (he : ∀ a, e a = tupM (f a)) (h0 : ∀ a, ∃ k r, f a = k :: r ∧ isTx k = b0) :
    EvFW K W (tCB (rSortX K) (tCons te tNil)) ρ e (fun Q => w fun xs => sortXW f xs Q) := fun Q q D0 H0 D H σ en R r =>
  (h _ q).b D0 H0 D H σ en _ fun l vs D1 H1 ds s1 hl q1 ⟨xs, z, hc, p⟩ => by
    subst z
    have o1 := s1.ok en.ok
    have em : xs.map e = (xs.map f).map tupM := by
      rw [List.map_map]
      exact List.map_congr_left fun a _ => he a
    rw [em] at q1
    refine ⟨l, vs, xs.map f, b0, rfl, hl, fun x hx => ?_, fun ks hk => ?_, fun ks hk js hj => ?_, fun ys p' hp hs hn' => ?_⟩
    · obtain ⟨ns, m, t⟩ := (q1.up o1.sub).tupsM x hx
      exact ⟨ns, t, m⟩
    · obtain ⟨a, _, rfl⟩ := List.mem_map.mp hk
      exact h0 a
    · obtain ⟨a, ha, rfl⟩ := List.mem_map.mp hk
      obtain ⟨b, hb, rfl⟩ := List.mem_map.mp hj
      exact hc a ha b hb
    · obtain ⟨mss, p1, p2⟩ := perm_dqA hp q1
      have em2 := srtM_eq p1 (pw_leX (p2.up o1.sub) (fun ms hm => p1.mem_iff.mp hm) hs)
      subst em2
      refine r p' _ D1 _ _ (s1.trans en.ok (.keptH o1 (same_new hn'))) (fresh_of en.ok s1 hn') (o1.sub.free hn') upd_same p2 ⟨srtK f xs, ?_, p⟩
      rw [← srtK_map, List.map_map]
      exact (List.map_congr_left fun a _ => he a).symm
end
end Dl

namespace K27
open PySem PySem.Spec PyProof.Rows L2 Dl
abbrev T_cal : Type := (Int × Int × (List Int))
abbrev e_cal : T_cal → PyData := (eT3 eI eI (eTup eI))
abbrev T_call : Type := (Str × Int)
abbrev e_call : T_call → PyData := (eT2 eS eI)
abbrev T_train : Type := (Int × (List Int) × (List T_call))
abbrev e_train : T_train → PyData := (eT3 eI (eTup eI) (eTup e_call))
abbrev T_plan : Type := (T_cal × (List T_train))
abbrev e_plan : T_plan → PyData := (eT2 e_cal (eTup e_train))
abbrev T_mark : Type := (Int × Int)
abbrev e_mark : T_mark → PyData := (eT2 eI eI)
abbrev T_cut : Type := (Str × Key × Int)
abbrev e_cut : T_cut → PyData := (eT3 eS eK eI)
abbrev T_threads : Type := (List ((Str × Key) × (List T_mark)))
abbrev e_threads : T_threads → PyData := (eDicT (kT2 kS kK) (eLst e_mark))
abbrev T_told : Type := (T_threads × (List (T_mark × Int)))
abbrev e_told : T_told → PyData := (eL2 e_threads (eDicT (kT2 kI kI) eI))
def topS (i : Nat) : Stmt := (PySem.Challenge.pw_risingsheets_k27_what_cuts_cost.main.body[i]?).getD (.Pass default)
abbrev s_cost_of : Stmt := topS 1
abbrev N_cost_of : List Str := ["cut", "price"]
theorem sc_cost_of : FnScope N_cost_of ["cut", "price"] (defScope s_cost_of) := ⟨rfl, rfl, rfl, by decide +kernel, rfl, by decide +kernel, by decide +kernel⟩
abbrev s_cost : Stmt := topS 2
abbrev N_cost : List Str := ["cuts", "price", "cut"]
theorem sc_cost : FnScope N_cost ["cuts", "price"] (defScope s_cost) := ⟨rfl, rfl, rfl, by decide +kernel, rfl, by decide +kernel, by decide +kernel⟩
abbrev s__law_mill : Stmt := topS 4
abbrev N__law_mill : List Str := ["script", "cells", "cell", "deep", "own"]
theorem sc__law_mill : FnScope N__law_mill ["script"] (defScope s__law_mill) := ⟨rfl, rfl, rfl, by decide +kernel, rfl, by decide +kernel, by decide +kernel⟩
abbrev s__law_draw : Stmt := topS 5
abbrev N__law_draw : List Str := ["mill", "many", "turn", "cell", "mixed", "whole"]
theorem sc__law_draw : FnScope N__law_draw ["mill", "many"] (defScope s__law_draw) := ⟨rfl, rfl, rfl, by decide +kernel, rfl, by decide +kernel, by decide +kernel⟩
abbrev s__law_pick : Stmt := topS 6
abbrev N__law_pick : List Str := ["mill", "items"]
theorem sc__law_pick : FnScope N__law_pick ["mill", "items"] (defScope s__law_pick) := ⟨rfl, rfl, rfl, by decide +kernel, rfl, by decide +kernel, by decide +kernel⟩
abbrev s__law_calls : Stmt := topS 7
abbrev N__law_calls : List Str := ["mill", "names", "many", "begin", "turn", "found", "minute", "name"]
theorem sc__law_calls : FnScope N__law_calls ["mill", "names", "many", "begin"] (defScope s__law_calls) := ⟨rfl, rfl, rfl, by decide +kernel, rfl, by decide +kernel, by decide +kernel⟩
abbrev s__law_plan : Stmt := topS 8
abbrev N__law_plan : List Str := ["mill", "most", "trains", "stations", "turn", "names", "number", "left", "found", "many", "calls"]
theorem sc__law_plan : FnScope N__law_plan ["mill", "most", "trains", "stations"] (defScope s__law_plan) := ⟨rfl, rfl, rfl, by decide +kernel, rfl, by decide +kernel, by decide +kernel⟩
abbrev s__law_turned : Stmt := topS 9
abbrev N__law_turned : List Str := ["mill", "calls", "many", "names", "name", "found", "minute"]
theorem sc__law_turned : FnScope N__law_turned ["mill", "calls", "many"] (defScope s__law_turned) := ⟨rfl, rfl, rfl, by decide +kernel, rfl, by decide +kernel, by decide +kernel⟩
abbrev s__law_threads : Stmt := topS 10
abbrev N__law_threads : List Str := ["plan", "minutes", "found", "rows", "number", "days", "calls", "name", "minute", "place"]
theorem sc__law_threads : FnScope N__law_threads ["plan"] (defScope s__law_threads) := ⟨rfl, rfl, rfl, by decide +kernel, rfl, by decide +kernel, by decide +kernel⟩
abbrev s__law_all_gaps : Stmt := topS 11
abbrev N__law_all_gaps : List Str := ["threads", "found", "kind", "name", "gap"]
theorem sc__law_all_gaps : FnScope N__law_all_gaps ["threads"] (defScope s__law_all_gaps) := ⟨rfl, rfl, rfl, by decide +kernel, rfl, by decide +kernel, by decide +kernel⟩
abbrev s__law_some : Stmt := topS 12
abbrev N__law_some : List Str := ["mill", "items", "share", "item"]
theorem sc__law_some : FnScope N__law_some ["mill", "items", "share"] (defScope s__law_some) := ⟨rfl, rfl, rfl, by decide +kernel, rfl, by decide +kernel, by decide +kernel⟩
abbrev s_law : Stmt := topS 13
abbrev N_law : List Str := ["script", "mill", "turn", "plan", "gaps", "lots", "cuts", "price", "due", "kind", "name", "gap", "cut"]
theorem sc_law : FnScope N_law ["script"] (defScope s_law) := ⟨rfl, rfl, rfl, by decide +kernel, rfl, by decide +kernel, by decide +kernel⟩
structure Txt (K : PySem.W.Frag) (mg : Str → Option Value) where
  f_cost_of : Addr
  fd_cost_of : FuncData
  F_cost_of : Fun K "cost_of" "cost_of" s_cost_of f_cost_of fd_cost_of
  g_cost_of : mg "cost_of" = some (.ref f_cost_of)
  f_cost : Addr
  fd_cost : FuncData
  F_cost : Fun K "cost" "cost" s_cost f_cost fd_cost
  g_cost : mg "cost" = some (.ref f_cost)
  f__law_mill : Addr
  fd__law_mill : FuncData
  F__law_mill : Fun K "_law_mill" "_law_mill" s__law_mill f__law_mill fd__law_mill
  g__law_mill : mg "_law_mill" = some (.ref f__law_mill)
  f__law_draw : Addr
  fd__law_draw : FuncData
  F__law_draw : Fun K "_law_draw" "_law_draw" s__law_draw f__law_draw fd__law_draw
  g__law_draw : mg "_law_draw" = some (.ref f__law_draw)
  f__law_pick : Addr
  fd__law_pick : FuncData
  F__law_pick : Fun K "_law_pick" "_law_pick" s__law_pick f__law_pick fd__law_pick
  g__law_pick : mg "_law_pick" = some (.ref f__law_pick)
  f__law_calls : Addr
  fd__law_calls : FuncData
  F__law_calls : Fun K "_law_calls" "_law_calls" s__law_calls f__law_calls fd__law_calls
  g__law_calls : mg "_law_calls" = some (.ref f__law_calls)
  f__law_plan : Addr
  fd__law_plan : FuncData
  F__law_plan : Fun K "_law_plan" "_law_plan" s__law_plan f__law_plan fd__law_plan
  g__law_plan : mg "_law_plan" = some (.ref f__law_plan)
  f__law_turned : Addr
  fd__law_turned : FuncData
  F__law_turned : Fun K "_law_turned" "_law_turned" s__law_turned f__law_turned fd__law_turned
  g__law_turned : mg "_law_turned" = some (.ref f__law_turned)
  f__law_threads : Addr
  fd__law_threads : FuncData
  F__law_threads : Fun K "_law_threads" "_law_threads" s__law_threads f__law_threads fd__law_threads
  g__law_threads : mg "_law_threads" = some (.ref f__law_threads)
  f__law_all_gaps : Addr
  fd__law_all_gaps : FuncData
  F__law_all_gaps : Fun K "_law_all_gaps" "_law_all_gaps" s__law_all_gaps f__law_all_gaps fd__law_all_gaps
  g__law_all_gaps : mg "_law_all_gaps" = some (.ref f__law_all_gaps)
  f__law_some : Addr
  fd__law_some : FuncData
  F__law_some : Fun K "_law_some" "_law_some" s__law_some f__law_some fd__law_some
  g__law_some : mg "_law_some" = some (.ref f__law_some)
  f_law : Addr
  fd_law : FuncData
  F_law : Fun K "law" "law" s_law f_law fd_law
  g_law : mg "law" = some (.ref f_law)
  n_len : mg "len" = none
  n_range : mg "range" = none
  n_enumerate : mg "enumerate" = none
  n_list : mg "list" = none
  n_repr : mg "repr" = none
  n_tuple : mg "tuple" = none
  n_sorted : mg "sorted" = none
  n_sum : mg "sum" = none
  n_min : mg "min" = none
  n_int : mg "int" = none
section
variable {K : PySem.W.Frag} {mg : Str → Option Value} (T : Txt K mg)
include T
theorem Txt.b_cost_of : Binds K T.fd_cost_of ["cut", "price"] [] := T.F_cost_of.binds fun _ _ _ _ _ _ us hl => match us, hl with | [_, _], _ => rfl
theorem Txt.b_cost : Binds K T.fd_cost ["cuts", "price"] [] := T.F_cost.binds fun _ _ _ _ _ _ us hl => match us, hl with | [_, _], _ => rfl
theorem Txt.b__law_mill : Binds K T.fd__law_mill ["script"] [] := T.F__law_mill.binds fun _ _ _ _ _ _ us hl => match us, hl with | [_], _ => rfl
theorem Txt.b__law_draw : Binds K T.fd__law_draw ["mill", "many"] [] := T.F__law_draw.binds fun _ _ _ _ _ _ us hl => match us, hl with | [_, _], _ => rfl
theorem Txt.b__law_pick : Binds K T.fd__law_pick ["mill", "items"] [] := T.F__law_pick.binds fun _ _ _ _ _ _ us hl => match us, hl with | [_, _], _ => rfl
theorem Txt.b__law_calls : Binds K T.fd__law_calls ["mill", "names", "many", "begin"] [] := T.F__law_calls.binds fun _ _ _ _ _ _ us hl => match us, hl with | [_, _, _, _], _ => rfl
theorem Txt.b__law_plan : Binds K T.fd__law_plan ["mill", "most", "trains", "stations"] [] := T.F__law_plan.binds fun _ _ _ _ _ _ us hl => match us, hl with | [_, _, _, _], _ => rfl
theorem Txt.b__law_turned : Binds K T.fd__law_turned ["mill", "calls", "many"] [] := T.F__law_turned.binds fun _ _ _ _ _ _ us hl => match us, hl with | [_, _, _], _ => rfl
theorem Txt.b__law_threads : Binds K T.fd__law_threads ["plan"] [] := T.F__law_threads.binds fun _ _ _ _ _ _ us hl => match us, hl with | [_], _ => rfl
theorem Txt.b__law_all_gaps : Binds K T.fd__law_all_gaps ["threads"] [] := T.F__law_all_gaps.binds fun _ _ _ _ _ _ us hl => match us, hl with | [_], _ => rfl
theorem Txt.b__law_some : Binds K T.fd__law_some ["mill", "items", "share"] [] := T.F__law_some.binds fun _ _ _ _ _ _ us hl => match us, hl with | [_, _, _], _ => rfl
theorem Txt.kw_cost_0 : KwB K T.fd_cost ["cuts", "price"] ["price", "cuts"] (fun {α} => gk [1, 0]) := Fun.kwG [1, 0] T.F_cost (fun _ _ _ _ _ _ us hl => match us, hl with | [_, _], _ => rfl) (fun hl r => match r, hl with | .cons r0 (.cons r1 .nil), _ => .cons r1 (.cons r0 .nil))
end

end K27

namespace K27
open PySem PySem.Spec PyProof.Rows L2 Dl
section
variable {P : Program} {w : World} {K : PySem.W.Frag} {mg : Str → Option Value} {base : Heap} (T : Txt K mg)
def cost_of.wp (cut_ : T_cut) (price_ : Int) (Q : Int → Prop) : Prop :=
  lt ((if (decide (cut_.1 = ("station" : Str))) then price_ else (1 : Int))) Q
abbrev cost_of.ea : T_cut × Int → List PyData := (fun a : T_cut × Int => [e_cut (a.1), eI (a.2)])
abbrev cost_of.wf : T_cut × Int → (Int → Prop) → Prop := (fun (a : T_cut × Int) Q => cost_of.wp a.1 a.2 Q)
theorem ok_cost_of : FnOk P w K mg base CX0 1 T.f_cost_of T.fd_cost_of ["cut", "price"] (spE K 2 cost_of.ea eI cost_of.wf) := by
  refine ok_E T.F_cost_of sc_cost_of fun cdv A outer s H E hr => ⟨_, (pss_cons (ps_ret (pe_ifExp (pt_cmpR op_eq (pe_ix (ix_tup : IxR _ (rIxT K)) (pv 0) pe_int (fun _ _ => rfl)) pe_str (nomark _)) (pv 1) pe_int)) pss_nil), fun a Q h => ?_⟩
  obtain ⟨cut_, price_⟩ := a
  show StG K Fx.non _ _ [.dat (e_cut (cut_)), .dat (eI (price_))] _
  have h : cost_of.wp cut_ price_ Q := h
  unfold cost_of.wp at h
  exact st_retW (e := eI) (EvN.w (e := eI) (a := (if (decide (cut_.1 = ("station" : Str))) then price_ else (1 : Int))) (evd_if (e := eI) (et_testD (d_eqS (d_ixT (ds := [eS (cut_.1), eK (cut_.2.1), eI (cut_.2.2)]) (ev_var (i := 0) rfl) ev_int rfl) ev_str)) (ev_var (i := 1) rfl) ev_int)) h fun a q => ⟨a, rfl, q⟩
def cost.wp (cuts_ : (List T_cut)) (price_ : Int) (Q : Int → Prop) : Prop :=
  lt (cuts_) (fun t4 => fmW t4 (fun x1 k2 => cost_of.wp (x1) (price_) (fun y => k2 (some y))) (fun t3 => lt t3.sum Q))
abbrev cost.ea : (List T_cut) × Int → List PyData := (fun a : (List T_cut) × Int => [(eTup e_cut) (a.1), eI (a.2)])
abbrev cost.wf : (List T_cut) × Int → (Int → Prop) → Prop := (fun (a : (List T_cut) × Int) Q => cost.wp a.1 a.2 Q)
theorem ok_cost : FnOk P w K mg base CX0 2 T.f_cost T.fd_cost ["cuts", "price"] (spE K 2 cost.ea eI cost.wf) := by
  refine ok_E T.F_cost sc_cost fun cdv A outer s H E hr => ⟨_, (pss_cons (ps_ret (pe_callB (cr_sum rfl : CallR _ _ (rSum K)) rfl T.n_sum (by decide +kernel) (pa_cons (pe_lc (own := [("cut", 2)]) rfl sc_cost.nd (pi_tup (pv 0)) (blkOk_by (N := N_cost) (sc := defScope s_cost) (by decide +kernel)) (fun _ _ _ _ _ => pg_name (i := 2) sc_cost.nd rfl (Or.inl rfl)) (fun _ _ _ _ _ => pts_nil) (fun _ _ _ _ _ => (pe_call (ok_cost_of T) (hr.mono (by decide)) rfl T.g_cost_of T.F_cost_of.kp T.b_cost_of .nil pass0 (pa_cons (pv 2) (pa_cons (pv 1) pa_nil))))) pa_nil))) pss_nil), fun a Q h => ?_⟩
  obtain ⟨cuts_, price_⟩ := a
  show StG K Fx.non _ _ [.dat ((eTup e_cut) (cuts_)), .dat (eI (price_)), .any] _
  have h : cost.wp cuts_ price_ Q := h
  unfold cost.wp at h
  exact st_retW (e := eI) (w_sumI (EvFW.l (evfw_fm (vs := [2]) (eb := eI) (f := (fun x1 k2 => cost_of.wp (x1) (price_) (fun y => k2 (some y)))) (hv_of (n := 3) rfl (by decide)) (i_tupW (e := e_cut) (EvN.w (e := (eTup e_cut)) (a := cuts_) (ev_var (i := 0) rfl))) (by decide) (fun x1 => (eg_name (i := 2) (show 2 < 3 by decide))) (fun x1 k2 h => ⟨_, pt_yes, fun _ => (evw_callD (n := 2) (ea := cost_of.ea) (er := eI) (w := cost_of.wf) (a := (x1, price_)) (ea_consD (ev_var (i := 2) rfl) (ea_consD (ev_var (i := 1) rfl) ea_nil)) (fun _ => rfl)) _ h, fun z => nomatch z⟩)))) h fun a q => ⟨a, rfl, q⟩

end
end K27

namespace K27
open PySem PySem.Spec PyProof.Rows L2 Dl
section
variable {P : Program} {w : World} {K : PySem.W.Frag} {mg : Str → Option Value} {base : Heap} (T : Txt K mg)
def law_mill.pre (script_ : (List Int)) (Q : (List Int) × (List Int) → Prop) : Prop :=
  lt ([] : List Int) (fun cells_ => lt (script_) (fun t12 => lt none (fun t13 => lt ((63 : Int)) (fun t15 => lt (some t15) (fun t14 => lt (cutG t12 t13 t14) (fun xs => loopW (fun x2 (s1 : (List Int)) kn3 kb4 => lt ((if (decide (x2 ≥ (0 : Int))) then ((2 : Int) * x2) else (((-(2 : Int)) * x2) - (1 : Int)))) (fun t6 => appW (s1) t6 (fun cells_ => kn3 cells_))) xs cells_ (fun s5 => lt (s5) (fun t11 => fmW t11 (fun x7 k8 => ifW ((decide (x7 ≥ ((10 : Int) ^ (18 : Int).toNat)))) (lt (x7) (fun y => k8 (some y))) (k8 none)) (fun deep_ => lt (((s5.length : Int) + (271 : Int))) (fun t9 => appW (s5) t9 (fun cells_ => Q (cells_, deep_))))))))))))
def law_mill.end1 (s : (List Int) × (List Int)) : Prop := lt (s.1) (fun t10 => lt t10.sum (fun _ => True)) ∧ s.1 ≠ [] ∧ s.1.length ≤ 1000 ∧ s.2.length ≤ 1000
theorem law_mill.ok (ns : List Int) (h : ns.length ≤ 63) : law_mill.pre ns law_mill.end1 := by
  unfold law_mill.pre law_mill.end1
  have h1 : (cutG ns none (some 63)).length ≤ 63 := Nat.le_trans (cutG_le _ _ _) h
  dsimp only [lt]
  refine loopW_map (fun x2 : Int => if decide (x2 ≥ 0) = true then 2 * x2 else -2 * x2 - 1) 100 (by rw [List.length_nil]; omega) (fun x hx s kn kb hl hk => ⟨lt_sz (by omega), hk⟩) ?_
  rw [List.nil_append]
  refine fmW_fm (fun x : Int => if x ≥ 10 ^ (18 : Int).toNat then some x else none) (by rw [List.length_map]; omega) (fun x _ k q => ?_) ?_
  · unfold ifW
    by_cases hx : x ≥ 10 ^ (18 : Int).toNat
    · rw [if_pos hx] at q
      rw [if_pos (decide_eq_true hx)]
      exact q
    · rw [if_neg hx] at q
      rw [if_neg (by simpa using hx)]
      exact q
  · refine ⟨lt_sz (by rw [List.length_map]; omega), trivial, by simp, ?_, ?_⟩
    · rw [List.length_append, List.length_map, List.length_singleton]
      omega
    · refine Nat.le_trans (List.length_filterMap_le _ _) ?_
      rw [List.length_map]
      omega
theorem ok__law_mill : FnOk P w K mg base CX0 1 T.f__law_mill T.fd__law_mill ["script"] (sp_mk K WmP) := by
  refine T.F__law_mill.ok sc__law_mill (fun vs H Q E h => ?_) (fun cdv A outer s H vs Q E hr h => ⟨_, (pss_cons (ps_set (i := 1) sc__law_mill.nd rfl (Or.inl rfl) (pe_lst pa_nil)) (pss_cons (ps_for PassesOwn.never rfl (pi_list (pe_slice (sl_list : SlR _ (rSlL K)) (pv 0) po_none (po_some pe_int))) (pg_name (i := 2) sc__law_mill.nd rfl (Or.inl rfl)) (pss_cons (ps_expr (pe_bm PySem.F.plainAttrs_list PySem.F.slot_list_append PySem.F.type_list_append mt_append (pv 1) (pa_cons (pe_ifExp (pt_cmpR op_ge (pv 2) pe_int (nomark _)) (pe_op op_mul pe_int (pv 2)) (pe_op op_sub (pe_op op_mul (pe_un un_neg pe_int) (pv 2)) pe_int)) pa_nil))) pss_nil)) (pss_cons (ps_setLc (i := 3) (own := [("own", 4)]) rfl sc__law_mill.nd rfl rfl (sw_true rfl rfl rfl (by decide +kernel)) (pi_list (pv 1)) (blkOk_by (N := N__law_mill) (sc := defScope s__law_mill) (by decide +kernel)) (fun _ _ _ _ _ => pg_name (i := 4) sc__law_mill.nd rfl (Or.inl rfl)) (fun _ _ _ _ _ => pts_one (pt_cmpR op_ge (pv 4) (pe_op op_pow pe_int pe_int) (nomark _))) (fun _ _ _ _ _ => (pv 4))) (pss_cons (ps_expr (pe_bm PySem.F.plainAttrs_list PySem.F.slot_list_append PySem.F.type_list_append mt_append (pv 1) (pa_cons (pe_op op_add (pe_callB (call_len_seq : CallR _ _ (rLenQ K)) rfl T.n_len (by decide +kernel) (pa_cons (pv 1) pa_nil)) pe_int) pa_nil))) (pss_cons (ps_ret (pe_lst (pa_cons (pv 3) (pa_cons (pv 1) (pa_cons (pe_callB (cr_sum rfl : CallR _ _ (rSum K)) rfl T.n_sum (by decide +kernel) (pa_cons (pv 1) pa_nil)) (pa_cons pe_int pa_nil)))))) pss_nil))))), ?_⟩)
  · obtain ⟨s, ns, rfl, _⟩ := h
    rfl
  obtain ⟨sa, script_, rfl, hS, hn, k⟩ := h
  have o0 : Ok Fx.non H H := ⟨Same.refl H, trivial, fun _ h => h.elim⟩
  have e0 : Env K Fx.non H H H H (start N__law_mill [.ref sa]) (ins N__law_mill [.list (script_.map .int)]) := env_start o0 (.cons (.lst hS (DqA.ints script_)) .nil) (by show 1 ≤ 5; decide)
  refine run4 ?_
  refine (?_ : StG K Fx.non (fun _ => False) (tSeq _ (tSeq _ (tSeq _ (tSeq _ tNext)))) [.dat ((eLst eI) (script_)), .any, .any, .any, .any] { nx := fun ρ' => ∃ s : (List Int) × (List Int), Le ρ' [.dat ((eLst eI) (script_)), .own ((s.1).map eI), .any, .own ((s.2).map eI), .any] ∧ law_mill.end1 s, rt := fun _ => False }) H H H H _ _ e0 ?_ (fun _ _ _ _ _ _ z => z.elim) (fun _ _ _ _ _ _ z => z.elim) (fun _ _ _ _ _ _ z => z.elim) (fun _ _ _ z => z.elim)
  · have h := law_mill.ok script_ hn
    generalize law_mill.end1 = Q at h ⊢
    unfold law_mill.pre at h
    refine st_setF (show 1 < 5 by decide) (EvF.w (e := eI) (xs := []) (evf_lst ea_nil (by rintro _ rfl; exact Nat.zero_le _))) h fun cells_ h => ?_
    refine st_forW (fun s1 : (List Int) => [.dat ((eLst eI) (script_)), .own ((s1).map eI), .any, .any, .any]) (i_listW (e := eI) (EvFW.w (w_slL (EvW.l (e := eI) (EvN.w (e := (eLst eI)) (a := script_) (ev_var (i := 0) rfl))) w_no (w_part (EvN.w (e := eI) (a := (63 : Int)) ev_int))))) h (Le.eq (Le.eq (Le.any (Le.any (Le.any Le.nil))))) (fun s1 x2 => (eg_name (i := 2) (show 2 < 5 by decide))) (fun x2 s1 kn3 kb4 h => ?_) (fun s5 h => ?_)
    · skip
      refine st_appW (i := 1) (e := eI) (xs := s1) rfl (fun l x xs H Q h0 h1 h2 => ⟨l, xs, x, rfl, rfl, h0, h1, h2⟩) (EvN.w (e := eI) (a := (if (decide (x2 ≥ (0 : Int))) then ((2 : Int) * x2) else (((-(2 : Int)) * x2) - (1 : Int)))) (evd_if (e := eI) (et_testD (d_ge (ev_var (i := 2) rfl) ev_int)) (d_mulL ev_int (ev_var (i := 2) rfl) ⟨by decide, by decide⟩) (d_sub (d_mulL (d_neg ev_int) (ev_var (i := 2) rfl) ⟨by decide, by decide⟩) ev_int))) h fun cells_ h => ?_
      exact st_next ⟨cells_, (Le.eq (Le.eq (Le.any (Le.any (Le.any Le.nil))))), h⟩
    · skip
      refine st_setF (show 3 < 5 by decide) (evfw_lend (i := 1) (e := eI) (xs := s5) rfl (evfw_fm (vs := [4]) (eb := eI) (f := (fun x7 k8 => ifW ((decide (x7 ≥ ((10 : Int) ^ (18 : Int).toNat)))) (lt (x7) (fun y => k8 (some y))) (k8 none))) (hv_of (n := 5) rfl (by decide)) (i_listW (e := eI) (EvN.w (e := (eLst eI)) (a := s5) (ev_var (i := 1) rfl))) (by decide) (fun x7 => (eg_name (i := 4) (show 4 < 5 by decide))) (fun x7 k8 h => ⟨_, (et_testD (d_ge (ev_var (i := 4) rfl) (d_pow ev_int ev_int ⟨by decide, by decide, by decide⟩))), fun z => (EvN.w (e := eI) (a := x7) (ev_var (i := 4) rfl)) _ (ifW_yes h z), fun z => ifW_no h z⟩)) nol_I) h fun deep_ h => ?_
      refine st_appW (i := 1) (e := eI) (xs := s5) rfl (fun l x xs H Q h0 h1 h2 => ⟨l, xs, x, rfl, rfl, h0, h1, h2⟩) (EvN.w (e := eI) (a := ((s5.length : Int) + (271 : Int))) (d_add (d_lenO (e := eI) (xs := s5) rfl) ev_int)) h fun cells_ h => ?_
      exact st_next ⟨(cells_, deep_), (Le.eq (Le.eq (Le.any (Le.eq (Le.any Le.nil))))), h⟩
  · rintro σ' D' H' ρ' g e' ⟨s, l, p1, p2, p3, p4⟩
    have e2 := e'.weak l
    exact mill_end (i := 3) (j := 1) s.2 s.1 e2 rfl rfl (by decide) p2 ⟨p3, p4⟩ (w_sumI (w_own (e := eI) (xs := s.1) rfl)) p1 (EvN.w (e := eI) (a := 0) ev_int) trivial k

end
end K27

namespace K27
open PySem PySem.Spec PyProof.Rows L2 Dl
section
variable {P : Program} {w : World} {K : PySem.W.Frag} {mg : Str → Option Value} {base : Heap} (T : Txt K mg)
abbrev law_draw.wp (n : Int) (Q : Int → Prop) : Prop := drawW n Q
theorem ok__law_draw : FnOk P w K mg base CX0 1 T.f__law_draw T.fd__law_draw ["mill", "many"] (spEW K WmP 1 (fun a : Int => [eI a]) eI (fun a Q => law_draw.wp a Q)) := by
  refine ok_EW T.F__law_draw sc__law_draw fun wc cdv A outer s H E hr => ⟨_, (pss_cons (ps_if (pt_cmpR (op_neQ hr.units) (pe_ix ix_list (pv 0) pe_int (fun _ _ => rfl)) (pe_lst pa_nil) (nomark _)) (pss_cons (ps_set (i := 5) sc__law_draw.nd rfl (Or.inl rfl) (pe_bm PySem.F.plainAttrs_list PySem.F.slot_list_pop PySem.F.type_list_pop mt_popAt (pe_ix ix_list (pv 0) pe_int (fun _ _ => rfl)) (pa_cons pe_int pa_nil))) (pss_cons (ps_if (pt_cmpR op_ge (pv 5) (pv 1) (nomark _)) (pss_cons (ps_expr (pe_bm PySem.F.plainAttrs_list PySem.F.slot_list_insert PySem.F.type_list_insert mt_insert (pe_ix ix_list (pv 0) pe_int (fun _ _ => rfl)) (pa_cons pe_int (pa_cons (pe_op op_fdivN (pv 5) (pv 1)) pa_nil)))) pss_nil) pss_nil) (pss_cons (ps_ret (pe_op op_modN (pe_callTy call_int1 rfl T.n_int (by decide +kernel) (pa_cons (pv 5) pa_nil)) (pv 1))) pss_nil))) pss_nil) (pss_cons (ps_asg (pe_op op_add (pe_ix ix_list (pv 0) pe_int (fun _ _ => rfl)) pe_int) (pg_sub (pv 0) pe_int set_list)) (pss_cons (ps_set (i := 2) sc__law_draw.nd rfl (Or.inl rfl) (pe_ix ix_list (pv 0) pe_int (fun _ _ => rfl))) (pss_cons (ps_set (i := 3) sc__law_draw.nd rfl (Or.inl rfl) (pe_ix ix_list (pe_ix ix_list (pv 0) pe_int (fun _ _ => rfl)) (pe_op op_modN (pe_callTy call_int1 rfl T.n_int (by decide +kernel) (pa_cons (pv 2) pa_nil)) (pe_callB call_len_seq rfl T.n_len (by decide +kernel) (pa_cons (pe_ix ix_list (pv 0) pe_int (fun _ _ => rfl)) pa_nil))) (fun _ _ => rfl))) (pss_cons (ps_set (i := 4) sc__law_draw.nd rfl (Or.inl rfl) (pe_op op_modN (pe_callTy call_int1 rfl T.n_int (by decide +kernel) (pa_cons (pe_op op_add (pe_op op_add (pe_op op_mul (pv 3) pe_int) (pe_op op_mul (pe_ix ix_list (pv 0) pe_int (fun _ _ => rfl)) pe_int)) (pe_op op_mul (pv 2) pe_int)) pa_nil)) pe_int)) (pss_cons (ps_set (i := 4) sc__law_draw.nd rfl (Or.inl rfl) (pe_op op_modN (pe_callTy call_int1 rfl T.n_int (by decide +kernel) (pa_cons (pe_op op_add (pe_op op_add (pe_op op_mul (pv 4) (pv 4)) (pe_op op_mul (pv 2) pe_int)) pe_int) pa_nil)) pe_int)) (pss_cons (ps_set (i := 4) sc__law_draw.nd rfl (Or.inl rfl) (pe_op op_modN (pe_callTy call_int1 rfl T.n_int (by decide +kernel) (pa_cons (pe_op op_add (pe_op op_add (pe_op op_mul (pv 4) (pv 4)) (pv 3)) (pv 2)) pa_nil)) pe_int)) (pss_cons (ps_ret (pe_op op_modN (pe_callTy call_int1 rfl T.n_int (by decide +kernel) (pa_cons (pe_op op_fdivN (pv 4) pe_int) pa_nil)) (pv 1))) pss_nil)))))))), fun k Q h => ?_⟩
  obtain ⟨hk0, hk1, hQ⟩ := h
  obtain ⟨a, b, c⟩ := wc
  show StG K (Wm a b c) _ _ [.rt, .dat (.int k), .any, .any, .any, .any] _
  intro D0 H0 D1 H1 σ Dn e kn kb kc kr kx
  obtain ⟨o, h1, h2⟩ := e.slot 0 _ rfl
  have h3 : o = some (.ref a) := h2
  subst h3
  obtain ⟨o, g1, v, g2, g3⟩ := e.slot 1 _ rfl
  subst g2
  cases g3
  obtain ⟨hab, hac, hbc, cs, ks, m, n, hks, ⟨hkl, hcl⟩, ha, hb, hc⟩ := e.ok.inv
  refine ⟨.ref a, h1, a, _, 0, .ref b, rfl, rfl, Or.inl (Or.inl ha), rfl, Nat.zero_le _, fun p hp => ?_⟩
  have s1 : Step (Wm a b c) D1 H1 D1 (upd H1 p (.lst [])) := .keptH e.ok (same_new hp)
  have pa : a ≠ p := ne_of_none ha hp
  have pb : b ≠ p := ne_of_none hb hp
  have pc : c ≠ p := ne_of_none hc hp
  have ha2 : (upd H1 p (.lst [])) a = some (.lst [.ref b, .ref c, .int m, .int n]) := by rw [upd_ne pa]; exact ha
  have hb2 : (upd H1 p (.lst [])) b = some (.lst (cs.map V.int)) := by rw [upd_ne pb]; exact hb
  have hc2 : (upd H1 p (.lst [])) c = some (.lst (ks.map V.int)) := by rw [upd_ne pc]; exact hc
  refine ⟨.list (cs.map .int), .list [], .lst (Or.inl (Or.inl hb2)) (DqA.ints cs), .lst (Or.inl (Or.inl upd_same)) .nil, sh_ints cs, sh_nil, _, rfl, ?_⟩
  have e1 := e.step s1
  generalize upd H1 p (.lst []) = H2 at ha2 hb2 hc2 s1 e1 ⊢
  rw [if_pos rfl, eqv_nil]
  cases cs with
  | nil =>
    refine iteF ?_
    show tSeq _ _ _ σ H2
    refine (?_ : StG K (Wm a b c) (fun _ => False) _ [.rt, .dat (.int k), .any, .any, .any, .any] { nx := fun _ => ∃ b, eI b = .none ∧ Q b, rt := fun d => ∃ b, d = eI b ∧ Q b }) D0 H0 D1 _ σ Dn e1 kn kb kc kr kx
    refine st_wmset rfl (ev_opI (ev_wm rfl (Or.inr rfl)) (ev_any ev_int)) ?_
    refine st_set (show 2 < 6 by decide) (ev_wm rfl (Or.inr rfl)) fun d2 p2 => ?_
    refine st_set (show 3 < 6 by decide) (ev_cellm rfl (ev_int1A ((ev_var rfl).imp fun d e => by rw [e]; exact p2))) fun d3 p3 => ?_
    refine st_set (show 4 < 6 by decide) (ev_modI (ev_int1A (ev_opI (ev_opI (ev_mulRm ⟨by decide, by decide⟩ ((ev_var rfl).imp fun d e => by rw [e]; exact p3)) (ev_mulRm ⟨by decide, by decide⟩ (ev_wm rfl (Or.inl rfl)))) (ev_mulRm ⟨by decide, by decide⟩ ((ev_var rfl).imp fun d e => by rw [e]; exact p2)))) ev_int (by decide)) fun d4 p4 => ?_
    refine st_set (show 4 < 6 by decide) (ev_modI (ev_int1A (ev_opI (ev_opI (ev_mulI ((ev_var rfl).imp fun d e => by rw [e]; exact p4) ((ev_var rfl).imp fun d e => by rw [e]; exact any_of p4) (by decide) (by decide)) (ev_mulRm ⟨by decide, by decide⟩ ((ev_var rfl).imp fun d e => by rw [e]; exact p2))) (ev_any ev_int))) ev_int (by decide)) fun d5 p5 => ?_
    refine st_set (show 4 < 6 by decide) (ev_modI (ev_int1A (ev_opI (ev_opI (ev_mulI ((ev_var rfl).imp fun d e => by rw [e]; exact p5) ((ev_var rfl).imp fun d e => by rw [e]; exact any_of p5) (by decide) (by decide)) ((ev_var rfl).imp fun d e => by rw [e]; exact p3)) ((ev_var rfl).imp fun d e => by rw [e]; exact p2))) ev_int (by decide)) fun d6 p6 => ?_
    refine st_retSeq ((ev_modI (ev_int1A (ev_divI ((ev_var rfl).imp fun d e => by rw [e]; exact any_of p6) ev_int ⟨by decide, by decide⟩)) (ev_var rfl) hk0).imp fun d ⟨i, z, q0, q1⟩ => ⟨i, z, hQ i q0 q1⟩)
  | cons w0 r =>
    refine iteT ?_
    have hlen : 5 < σ.length := e.lt (i := 5) rfl
    refine ⟨.ref a, h1, a, _, 0, .ref b, rfl, rfl, Or.inl (Or.inl ha2), rfl, Or.inl ⟨rfl, _, Or.inl (Or.inl hb2)⟩, b, _, 0, 0, _, rfl, rfl, hb2, by decide, by decide, (ixN_seq (ixN_of (k := 0) (Nat.succ_pos _))).1, rfl, ?_⟩
    have z0 : (σ.set 5 (some (V.int w0)))[0]? = some (some (.ref a)) := by rw [List.getElem?_set_ne (by decide)]; exact h1
    have z1 : (σ.set 5 (some (V.int w0)))[1]? = some (some (.int k)) := by rw [List.getElem?_set_ne (by decide)]; exact g1
    have z5 : (σ.set 5 (some (V.int w0)))[5]? = some (some (.int w0)) := List.getElem?_set_self hlen
    have ha3 : (upd H2 b (.lst (((w0 :: r).map V.int).eraseIdx 0))) a = some (.lst [.ref b, .ref c, .int m, .int n]) := by rw [upd_ne hab]; exact ha2
    refine ⟨_, z5, _, z1, w0, k, rfl, rfl, ?_⟩
    have last : ∀ (H4 : Hp) (cs : List Int), cs.length ≤ 1000 → (∀ p, ¬ (Wm a b c).adr p → H4 p = H2 p) → H4 a = some (.lst [.ref b, .ref c, .int m, .int n]) → H4 b = some (.lst (cs.map V.int)) → H4 c = some (.lst (ks.map V.int)) → Dn.rt (.int (w0.fmod k)) H4 := fun H4 cs hl q1 q2 q3 q4 =>
      kr _ D1 _ (.int (w0.fmod k)) ((e.st.trans e.ok0 s1).trans e.ok0 (.at e1.ok q1 ⟨hab, hac, hbc, cs, ks, m, n, hks, ⟨hkl, hl⟩, q2, q3, q4⟩)) (.int _) ⟨_, rfl, hQ _ (Int.fmod_nonneg_of_pos w0 hk0) (Int.fmod_lt_of_pos w0 hk0)⟩
    refine ⟨_, rfl, ?_⟩
    dsimp only
    by_cases hwk : w0 ≥ k
    · rw [if_pos (decide_eq_true hwk)]
      refine ⟨.ref a, z0, a, _, 0, .ref b, rfl, rfl, Or.inl (Or.inl ha3), rfl, Or.inl ⟨rfl, _, Or.inl (Or.inl upd_same)⟩, ?_⟩
      refine ⟨_, z5, _, z1, w0, k, rfl, rfl, ⟨by omega, by omega⟩, ?_⟩
      refine ⟨b, _, 0, _, rfl, rfl, upd_same, ?_, by decide, by decide, ?_⟩
      · refine lt_sz ?_
        show ((r.map V.int).length) < _
        rw [List.length_map]
        rw [List.length_cons] at hcl
        omega
      · show tSeq _ _ _ _ _
        refine ⟨_, z5, Or.inl ⟨w0, rfl, _, z1, w0, k, rfl, rfl, (by omega), ?_⟩⟩
        refine last _ (w0.fdiv k :: r) hcl (fun p hp => ?_) ?_ ?_ ?_
        · have hp2 : p ≠ b := fun z => hp (Or.inr (Or.inl z))
          rw [upd_ne hp2, upd_ne hp2]
        · rw [upd_ne hab]
          exact ha3
        · rw [upd_same]
          rfl
        · rw [upd_ne (Ne.symm hbc), upd_ne (Ne.symm hbc)]
          exact hc2
    · rw [if_neg (by simpa using hwk)]
      refine ⟨_, z5, Or.inl ⟨w0, rfl, _, z1, w0, k, rfl, rfl, (by omega), ?_⟩⟩
      refine last _ r (by rw [List.length_cons] at hcl; omega) (fun p hp => ?_) ha3 ?_ ?_
      · have hp2 : p ≠ b := fun z => hp (Or.inr (Or.inl z))
        rw [upd_ne hp2]
      · rw [upd_same]
        rfl
      · rw [upd_ne (Ne.symm hbc)]
        exact hc2
abbrev law_pick.wp {α : Type} (xs : List α) (Q : α → Prop) : Prop := pickW xs Q
theorem pick_to {α : Type} {xs : List α} {Q : α → Prop} (h : pickW xs Q) : lt xs fun t1 => drawW (xs.length : Int) fun t2 => ixW t1 t2 Q := by
  obtain ⟨h0, h1, h2⟩ := h
  have hpos : 0 < xs.length := by
    cases xs with
    | nil => exact (h0 rfl).elim
    | cons d ds => simp
  refine ⟨by omega, by omega, fun r a b => ?_⟩
  have hi : r.toNat < xs.length := by omega
  have er : r = ((r.toNat : Nat) : Int) := by omega
  obtain ⟨u, hu⟩ : ∃ u, xs[r.toNat]? = some u := ⟨_, List.getElem?_eq_getElem hi⟩
  refine ⟨u, ?_, h2 u (List.mem_of_getElem? hu)⟩
  rw [er]
  exact atI_of hu
theorem ok__law_pick_at {α : Type} (e : α → PyData) : FnOk P w K mg base CX0 2 T.f__law_pick T.fd__law_pick ["mill", "items"] (spEW K WmP 1 (fun a : List α => [eLst e a]) e (fun a Q => law_pick.wp a Q)) := by
  refine ok_EW T.F__law_pick sc__law_pick fun wc cdv A outer s H E hr => ⟨_, (pss_cons (ps_ret (pe_ix (ix_list : IxR _ (rIxL K)) (pv 1) (pe_call (ok__law_draw T) (hr.mono (by decide)) rfl T.g__law_draw T.F__law_draw.kp T.b__law_draw .nil pass0 (pa_cons (pv 0) (pa_cons (pe_callB (call_len_seq : CallR _ _ (rLenQ K)) rfl T.n_len (by decide +kernel) (pa_cons (pv 1) pa_nil)) pa_nil))) (fun _ _ => rfl))) pss_nil), fun items_ Q h => ?_⟩
  show StG K (WmP wc) _ _ [.rt, .dat ((eLst e) (items_))] _
  have h := pick_to h
  exact st_retW (e := e) (w_ixL (e := e) (EvW.l (e := e) (EvN.w (e := (eLst e)) (a := items_) (ev_var (i := 1) rfl))) (evw_callWD (n := 1) (a := (items_.length : Int)) rfl (ea_consD (d_lenL (e := e) (ev_var (i := 1) rfl)) ea_nil) (fun _ => rfl))) h fun a q => ⟨a, rfl, q⟩
theorem ok__law_pick_own : FnOk P w K mg base CX0 2 T.f__law_pick T.fd__law_pick ["mill", "items"] (spPO K WmP) := by
  refine T.F__law_pick.ok sc__law_pick (fun vs H Q E h => ?_) (fun cdv A outer s H vs Q E hr h => ⟨_, (pss_cons (ps_ret (pe_ix (ix_list : IxR _ (rIxL K)) (pv 1) (pe_call (ok__law_draw T) (hr.mono (by decide)) rfl T.g__law_draw T.F__law_draw.kp T.b__law_draw .nil pass0 (pa_cons (pv 0) (pa_cons (pe_callB (call_len_seq : CallR _ _ (rLenQ K)) rfl T.n_len (by decide +kernel) (pa_cons (pv 1) pa_nil)) pa_nil))) (fun _ _ => rfl))) pss_nil), ?_⟩)
  · obtain ⟨c, D, l, xs, ds, rfl, _⟩ := h
    rfl
  obtain ⟨c, D, l, xs, ds, rfl, o, hn, hx, q, h0, h1, k⟩ := h
  exact pickO_body rfl rfl o hn hx q h0 h1 k

end
end K27

namespace K27
open PySem PySem.Spec PyProof.Rows L2 Dl
section
variable {P : Program} {w : World} {K : PySem.W.Frag} {mg : Str → Option Value} {base : Heap} (T : Txt K mg)
def law_calls.wp (names_ : (List Str)) (many_ : Int) (begin_ : Int) (Q : (List T_call) → Prop) : Prop :=
  lt ([] : List T_call) (fun t21 => lt (begin_) (fun t22 => lt (t21, t22, ()) (fun p1 => lt (many_) (fun t20 => rngW 0 t20 (fun xs => loopW (fun x3 (s2 : (List T_call) × Int) kn4 kb5 => law_pick.wp (names_) (fun name_ => joinW (fun k8 : Str → Prop => lt (s2.1) (fun t18 => lt ([] : List T_call) (fun t19 => neW (eLst e_call) t18 t19 (fun t12 => andW t12 (fun q1 => lt (s2.1) (fun t16 => lt ((-(1 : Int))) (fun t17 => ixW t16 t17 (fun t15 => lt t15.1 (fun t13 => lt (name_) (fun t14 => lt ((decide (t13 = t14))) q1)))))) (fun b => ifW b (law_pick.wp (names_) (fun name_ => k8 name_)) (k8 name_)))))) (fun s7 => lt ((s7, s2.2)) (fun t9 => appW (s2.1) t9 (fun found_ => lt ((s2.2 + (1 : Int))) (fun t10 => law_draw.wp ((8 : Int)) (fun t11 => lt ((t10 + t11)) (fun minute_ => kn4 (found_, minute_))))))))) xs (p1.1, p1.2.1) (fun s6 => lt (s6.1) Q))))))
abbrev law_calls.ea : (List Str) × Int × Int → List PyData := (fun a : (List Str) × Int × Int => [(eLst eS) (a.1), eI (a.2.1), eI (a.2.2)])
abbrev law_calls.wf : (List Str) × Int × Int → ((List T_call) → Prop) → Prop := (fun (a : (List Str) × Int × Int) Q => law_calls.wp a.1 a.2.1 a.2.2 Q)
theorem ok__law_calls : FnOk P w K mg base CX0 3 T.f__law_calls T.fd__law_calls ["mill", "names", "many", "begin"] (spEW K WmP 3 law_calls.ea (eTup e_call) law_calls.wf) := by
  refine ok_EW T.F__law_calls sc__law_calls fun wc cdv A outer s H E hr => ⟨_, (pss_cons (ps_par (i := 5) (j := 6) rfl sc__law_calls.nd rfl rfl (by decide) rfl rfl (pa_cons (pe_lst pa_nil) (pa_cons (pv 3) pa_nil)) rfl) (pss_cons (ps_for PassesOwn.never rfl (pi_range1 rfl T.n_range (pa_cons (pv 2) pa_nil)) (pg_name (i := 4) sc__law_calls.nd rfl (Or.inl rfl)) (pss_cons (ps_set (i := 7) sc__law_calls.nd rfl (Or.inl rfl) (pe_call (ok__law_pick_at T eS) (hr.mono (by decide)) rfl T.g__law_pick T.F__law_pick.kp T.b__law_pick .nil pass0 (pa_cons (pv 0) (pa_cons (pv 1) pa_nil)))) (pss_cons (ps_if (PW.pt (pw_and (pt_cmpR (op_neQ hr.units) (pv 5) (pe_lst pa_nil) (nomark _)) (pw_and1 (pt_cmpR op_eq (pe_ix (ix_tup : IxR _ (rIxT K)) (pe_ix (ix_list : IxR _ (rIxL K)) (pv 5) (pe_un un_neg pe_int) (fun _ _ => rfl)) pe_int (fun _ _ => rfl)) (pv 7) (nomark _))))) (pss_cons (ps_set (i := 7) sc__law_calls.nd rfl (Or.inl rfl) (pe_call (ok__law_pick_at T eS) (hr.mono (by decide)) rfl T.g__law_pick T.F__law_pick.kp T.b__law_pick .nil pass0 (pa_cons (pv 0) (pa_cons (pv 1) pa_nil)))) pss_nil) pss_nil) (pss_cons (ps_expr (pe_bm PySem.F.plainAttrs_list PySem.F.slot_list_append PySem.F.type_list_append mt_append (pv 5) (pa_cons (pe_tup (pa_cons (pv 7) (pa_cons (pv 6) pa_nil))) pa_nil))) (pss_cons (ps_set (i := 6) sc__law_calls.nd rfl (Or.inl rfl) (pe_op op_add (pe_op op_add (pv 6) pe_int) (pe_call (ok__law_draw T) (hr.mono (by decide)) rfl T.g__law_draw T.F__law_draw.kp T.b__law_draw .nil pass0 (pa_cons (pv 0) (pa_cons pe_int pa_nil))))) pss_nil))))) (pss_cons (ps_ret (pe_callTy (call_tuple_of : CallR _ (.type "tuple") (rTupOf K)) rfl T.n_tuple (by decide +kernel) (pa_cons (pv 5) pa_nil))) pss_nil))), fun a Q h => ?_⟩
  obtain ⟨names_, many_, begin_⟩ := a
  show StG K (WmP wc) _ _ [.rt, .dat ((eLst eS) (names_)), .dat (eI (many_)), .dat (eI (begin_)), .any, .any, .any, .any] _
  have h : law_calls.wp names_ many_ begin_ Q := h
  unfold law_calls.wp at h
  refine st_par2M (k1 := (fun p1 => .own ((p1.1).map e_call))) (k2 := (fun p1 => .dat (eI (p1.2.1)))) (show 5 < 8 by decide) (show 6 < 8 by decide) (em_own (EvF.w (e := e_call) (xs := []) (evf_lst ea_nil (by rintro _ rfl; exact Nat.zero_le _))) (em_dat (e := eI) (EvN.w (e := eI) (a := begin_) (ev_var (i := 3) rfl)) em_nil)) h (fun _ => rfl) fun p1 h => ?_
  refine st_forW (fun s2 : (List T_call) × Int => [.rt, .dat ((eLst eS) (names_)), .dat (eI (many_)), .dat (eI (begin_)), .any, .own ((s2.1).map e_call), .dat (eI (s2.2)), .any]) (i_rng1W (EvN.w (e := eI) (a := many_) (ev_var (i := 2) rfl))) h (Le.eq (Le.eq (Le.eq (Le.eq (Le.any (Le.eq (Le.eq (Le.any Le.nil)))))))) (fun s2 x3 => (eg_name (i := 4) (show 4 < 8 by decide))) (fun x3 s2 kn4 kb5 h => ?_) (fun s6 h => ?_)
  · skip
    refine st_setW (e := eS) (show 7 < 8 by decide) (evw_callWD (n := 1) (a := names_) rfl (ea_consD (ev_var (i := 1) rfl) ea_nil) (fun _ => rfl)) h fun name_ h => ?_
    refine st_joinW (fun s7 : Str => [.rt, .dat ((eLst eS) (names_)), .dat (eI (many_)), .dat (eI (begin_)), .dat (eI (x3)), .own ((s2.1).map e_call), .dat (eI (s2.2)), .dat (eS (s7))]) h (fun k8 h => ?_) (fun s7 h => ?_)
    · skip
      refine st_ifW (etw_and (etw_test (w_neQ (EvLW.h (w_own (e := e_call) (xs := s2.1) rfl)) (EvW.h (e := (eLst e_call)) (EvFW.w (EvF.w (e := e_call) (xs := []) (evf_lst ea_nil (by rintro _ rfl; exact Nat.zero_le _))))) (EqE.lst (EqE.t2 EqE.str EqE.int)) (by decide))) (etw_test (w_eqS (w_prT (e := e_call) (ec := eS) (f := fun a => [eS (a.1), eI (a.2)]) (p := fun a => a.1) (w_ixL (e := e_call) (w_own (e := e_call) (xs := s2.1) rfl) (EvN.w (e := eI) (a := (-(1 : Int))) (d_neg ev_int))) ev_int (fun _ => rfl) (fun _ => rfl)) (EvN.w (e := eS) (a := name_) (ev_var (i := 7) rfl))))) h (fun h => ?_) (fun h => ?_)
      · skip
        refine st_flat ?_
        refine st_setW (e := eS) (show 7 < 8 by decide) (evw_callWD (n := 1) (a := names_) rfl (ea_consD (ev_var (i := 1) rfl) ea_nil) (fun _ => rfl)) h fun name_ h => ?_
        refine st_nextSeq ?_
        exact st_next ⟨name_, (Le.eq (Le.eq (Le.eq (Le.eq (Le.eq (Le.eq (Le.eq (Le.eq Le.nil)))))))), h⟩
      · skip
        refine st_nextSeq ?_
        exact st_next ⟨name_, (Le.eq (Le.eq (Le.eq (Le.eq (Le.eq (Le.eq (Le.eq (Le.eq Le.nil)))))))), h⟩
    · skip
      refine st_appW (i := 5) (e := e_call) (xs := s2.1) rfl (fun l x xs H Q h0 h1 h2 => ⟨l, xs, x, rfl, rfl, h0, h1, h2⟩) (EvN.w (e := e_call) (a := (s7, s2.2)) (ev_tupD (ea_consD (ev_var (i := 7) rfl) (ea_consD (ev_var (i := 6) rfl) ea_nil)) (by show 2 ≤ _; rw [sizeLine_eq]; decide))) h fun found_ h => ?_
      refine st_setW (e := eI) (show 6 < 8 by decide) (w_opI (ec := eI) (f := fun a b => a + b) (fun _ _ _ => .int _) (EvN.w (e := eI) (a := (s2.2 + (1 : Int))) (d_add (ev_var (i := 6) rfl) ev_int)) (evw_callWD (n := 1) (a := (8 : Int)) rfl (ea_consD ev_int ea_nil) (fun _ => rfl))) h fun minute_ h => ?_
      exact st_next ⟨(found_, minute_), (Le.eq (Le.eq (Le.eq (Le.eq (Le.any (Le.eq (Le.eq (Le.any Le.nil)))))))), h⟩
  · skip
    exact st_retW (e := (eTup e_call)) (w_tupL (e := e_call) (w_own (e := e_call) (xs := s6.1) rfl)) h fun a q => ⟨a, rfl, q⟩
def law_turned.wp (calls_ : (List T_call)) (many_ : Int) (Q : (List T_call) → Prop) : Prop :=
  lt (calls_) (fun t22 => fmW t22 (fun x1 k2 => lt (x1.1) (fun y => k2 (some y))) (fun names_ => law_draw.wp ((2 : Int)) (fun t20 => lt ((0 : Int)) (fun t21 => lt ((decide (t20 = t21))) (fun t18 => iteW t18 (fun q1 => lt (names_) (fun t19 => lt t19.reverse q1)) (fun q1 => lt (names_) q1) (fun names_ => lt ([] : List T_call) (fun t16 => law_draw.wp ((12 : Int)) (fun t17 => lt (t16, t17, ()) (fun p3 => lt (names_) (fun t12 => lt none (fun t13 => lt (many_) (fun t15 => lt (some t15) (fun t14 => lt (cutG t12 t13 t14) (fun xs => loopW (fun x5 (s4 : (List T_call) × Int) kn6 kb7 => lt ((x5, s4.2)) (fun t9 => appW (s4.1) t9 (fun found_ => lt ((s4.2 + (1 : Int))) (fun t10 => law_draw.wp ((8 : Int)) (fun t11 => lt ((t10 + t11)) (fun minute_ => kn6 (found_, minute_))))))) xs (p3.1, p3.2.1) (fun s8 => lt (s8.1) Q)))))))))))))))
abbrev law_turned.ea : (List T_call) × Int → List PyData := (fun a : (List T_call) × Int => [(eTup e_call) (a.1), eI (a.2)])
abbrev law_turned.wf : (List T_call) × Int → ((List T_call) → Prop) → Prop := (fun (a : (List T_call) × Int) Q => law_turned.wp a.1 a.2 Q)
theorem ok__law_turned : FnOk P w K mg base CX0 2 T.f__law_turned T.fd__law_turned ["mill", "calls", "many"] (spEW K WmP 2 law_turned.ea (eTup e_call) law_turned.wf) := by
  refine ok_EW T.F__law_turned sc__law_turned fun wc cdv A outer s H E hr => ⟨_, (pss_cons (ps_setLc (i := 3) (own := [("name", 4), ("minute", 6)]) rfl sc__law_turned.nd rfl rfl (sw_true rfl rfl rfl (by decide +kernel)) (pi_tup (pv 1)) (blkOk_by (N := N__law_turned) (sc := defScope s__law_turned) (by decide +kernel)) (fun _ _ _ _ _ => (pg_tup (by rfl) (pgs_cons (pg_name (i := 4) sc__law_turned.nd (by rfl) (Or.inl (by rfl)) (Or.inr (by rfl))) (pgs_cons (pg_name (i := 6) sc__law_turned.nd (by rfl) (Or.inl (by rfl)) (Or.inr (by rfl))) pgs_nil)) : PG _ _ (gTup K 2 _))) (fun _ _ _ _ _ => pts_nil) (fun _ _ _ _ _ => (pv 4))) (pss_cons (ps_set (i := 3) sc__law_turned.nd rfl (Or.inl rfl) (pe_ifExp (pt_cmpR op_eq (pe_call (ok__law_draw T) (hr.mono (by decide)) rfl T.g__law_draw T.F__law_draw.kp T.b__law_draw .nil pass0 (pa_cons (pv 0) (pa_cons pe_int pa_nil))) pe_int (nomark _)) (pe_revL (pv 3)) (pv 3))) (pss_cons (ps_par (i := 5) (j := 6) rfl sc__law_turned.nd rfl rfl (by decide) rfl rfl (pa_cons (pe_lst pa_nil) (pa_cons (pe_call (ok__law_draw T) (hr.mono (by decide)) rfl T.g__law_draw T.F__law_draw.kp T.b__law_draw .nil pass0 (pa_cons (pv 0) (pa_cons pe_int pa_nil))) pa_nil)) rfl) (pss_cons (ps_for PassesOwn.never rfl (pi_list (pe_slice (sl_list : SlR _ (rSlL K)) (pv 3) po_none (po_some (pv 2)))) (pg_name (i := 4) sc__law_turned.nd rfl (Or.inl rfl)) (pss_cons (ps_expr (pe_bm PySem.F.plainAttrs_list PySem.F.slot_list_append PySem.F.type_list_append mt_append (pv 5) (pa_cons (pe_tup (pa_cons (pv 4) (pa_cons (pv 6) pa_nil))) pa_nil))) (pss_cons (ps_set (i := 6) sc__law_turned.nd rfl (Or.inl rfl) (pe_op op_add (pe_op op_add (pv 6) pe_int) (pe_call (ok__law_draw T) (hr.mono (by decide)) rfl T.g__law_draw T.F__law_draw.kp T.b__law_draw .nil pass0 (pa_cons (pv 0) (pa_cons pe_int pa_nil))))) pss_nil))) (pss_cons (ps_ret (pe_callTy (call_tuple_of : CallR _ (.type "tuple") (rTupOf K)) rfl T.n_tuple (by decide +kernel) (pa_cons (pv 5) pa_nil))) pss_nil))))), fun a Q h => ?_⟩
  obtain ⟨calls_, many_⟩ := a
  show StG K (WmP wc) _ _ [.rt, .dat ((eTup e_call) (calls_)), .dat (eI (many_)), .any, .any, .any, .any] _
  have h : law_turned.wp calls_ many_ Q := h
  unfold law_turned.wp at h
  refine st_setW (e := (eLst eS)) (show 3 < 7 by decide) (EvFW.w (evfw_fm (vs := [4, 6]) (eb := eS) (f := (fun x1 k2 => lt (x1.1) (fun y => k2 (some y)))) (hv_of (n := 7) rfl (by decide)) (i_tupW (e := e_call) (EvN.w (e := (eTup e_call)) (a := calls_) (ev_var (i := 1) rfl))) (by decide) (fun x1 => (eg_tup (ds := [eS (x1.1), eI (x1.2)]) (egs_cons (eg_name (i := 4) (show 4 < 7 by decide)) (egs_cons (eg_name (i := 6) (show 6 < 7 by decide)) egs_nil)) rfl)) (fun x1 k2 h => ⟨_, pt_yes, fun _ => (EvN.w (e := eS) (a := x1.1) (ev_var (i := 4) rfl)) _ h, fun z => nomatch z⟩))) h fun names_ h => ?_
  refine st_setW (e := (eLst eS)) (show 3 < 7 by decide) (evw_if (e := (eLst eS)) (etw_test (w_eqI (evw_callWD (n := 1) (a := (2 : Int)) rfl (ea_consD ev_int ea_nil) (fun _ => rfl)) (EvN.w (e := eI) (a := (0 : Int)) ev_int))) (EvFW.w (w_revL (EvW.l (e := eS) (EvN.w (e := (eLst eS)) (a := names_) (ev_var (i := 3) rfl))))) (EvN.w (e := (eLst eS)) (a := names_) (ev_var (i := 3) rfl))) h fun names_ h => ?_
  refine st_par2M (k1 := (fun p3 => .own ((p3.1).map e_call))) (k2 := (fun p3 => .dat (eI (p3.2.1)))) (show 5 < 7 by decide) (show 6 < 7 by decide) (em_own (EvF.w (e := e_call) (xs := []) (evf_lst ea_nil (by rintro _ rfl; exact Nat.zero_le _))) (em_dat (e := eI) (evw_callWD (n := 1) (a := (12 : Int)) rfl (ea_consD ev_int ea_nil) (fun _ => rfl)) em_nil)) h (fun _ => rfl) fun p3 h => ?_
  refine st_forW (fun s4 : (List T_call) × Int => [.rt, .dat ((eTup e_call) (calls_)), .dat (eI (many_)), .dat ((eLst eS) (names_)), .any, .own ((s4.1).map e_call), .dat (eI (s4.2))]) (i_listW (e := eS) (EvFW.w (w_slL (EvW.l (e := eS) (EvN.w (e := (eLst eS)) (a := names_) (ev_var (i := 3) rfl))) w_no (w_part (EvN.w (e := eI) (a := many_) (ev_var (i := 2) rfl)))))) h (Le.eq (Le.eq (Le.eq (Le.eq (Le.any (Le.eq (Le.eq Le.nil))))))) (fun s4 x5 => (eg_name (i := 4) (show 4 < 7 by decide))) (fun x5 s4 kn6 kb7 h => ?_) (fun s8 h => ?_)
  · skip
    refine st_appW (i := 5) (e := e_call) (xs := s4.1) rfl (fun l x xs H Q h0 h1 h2 => ⟨l, xs, x, rfl, rfl, h0, h1, h2⟩) (EvN.w (e := e_call) (a := (x5, s4.2)) (ev_tupD (ea_consD (ev_var (i := 4) rfl) (ea_consD (ev_var (i := 6) rfl) ea_nil)) (by show 2 ≤ _; rw [sizeLine_eq]; decide))) h fun found_ h => ?_
    refine st_setW (e := eI) (show 6 < 7 by decide) (w_opI (ec := eI) (f := fun a b => a + b) (fun _ _ _ => .int _) (EvN.w (e := eI) (a := (s4.2 + (1 : Int))) (d_add (ev_var (i := 6) rfl) ev_int)) (evw_callWD (n := 1) (a := (8 : Int)) rfl (ea_consD ev_int ea_nil) (fun _ => rfl))) h fun minute_ h => ?_
    exact st_next ⟨(found_, minute_), (Le.eq (Le.eq (Le.eq (Le.eq (Le.any (Le.eq (Le.eq Le.nil))))))), h⟩
  · skip
    exact st_retW (e := (eTup e_call)) (w_tupL (e := e_call) (w_own (e := e_call) (xs := s8.1) rfl)) h fun a q => ⟨a, rfl, q⟩

end
end K27

namespace K27
open PySem PySem.Spec PyProof.Rows L2 Dl
section
variable {P : Program} {w : World} {K : PySem.W.Frag} {mg : Str → Option Value} {base : Heap} (T : Txt K mg)
def law_plan.wp (most_ : Int) (trains_ : Int) (stations_ : Int) (Q : T_plan → Prop) : Prop :=
  lt ([("ab" : Str), ("cd" : Str), ("ef" : Str), ("gh" : Str), ("x" : Str)] : (List Str)) (fun t42 => lt none (fun t43 => lt (stations_) (fun t45 => lt (some t45) (fun t44 => lt (cutG t42 t43 t44) (fun t38 => lt ((0 : Int)) (fun t39 => lt (most_) (fun t40 => lt ([] : List T_train) (fun t41 => lt (t38, t39, t40, t41, ()) (fun p1 => lt (trains_) (fun t37 => rngW 0 t37 (fun xs => loopW (fun x3 (s2 : Int × Int × (List T_train)) kn4 kb5 => lt ((decide (x3 > (1 : Int)))) (fun t27 => iteW t27 (fun q1 => lt ((1 : Int)) (fun t28 => law_draw.wp ((4 : Int)) (fun t29 => lt ((t28 + t29)) q1))) (fun q1 => lt ((2 : Int)) (fun t30 => law_draw.wp ((3 : Int)) (fun t31 => lt ((t30 + t31)) q1))) (fun many_ => lt ((if s2.2.1 < many_ then s2.2.1 else many_)) (fun many_ => ifW ((decide (many_ = (0 : Int)))) (kb5 (s2.1, s2.2.1, s2.2.2)) (lt ((s2.1 + (1 : Int))) (fun t25 => law_draw.wp ((3 : Int)) (fun t26 => lt ((t25 + t26)) (fun number_ => lt (p1.1) (fun t22 => lt (many_) (fun t23 => law_draw.wp ((12 : Int)) (fun t24 => law_calls.wp t22 t23 t24 (fun calls_ => joinW (fun k8 : (List T_call) → Prop => lt (s2.2.2) (fun t20 => lt ([] : List T_train) (fun t21 => neW (eLst e_train) t20 t21 (fun t17 => andW t17 (fun q1 => law_draw.wp ((3 : Int)) (fun t18 => lt ((0 : Int)) (fun t19 => lt ((decide (t18 = t19))) q1))) (fun b => ifW b (pickW s2.2.2 (fun t11 => lt t11.2.2 (fun t9 => lt (many_) (fun t10 => law_turned.wp t9 t10 (fun calls_ => k8 calls_))))) (k8 calls_)))))) (fun s7 => lt (number_) (fun t13 => law_draw.wp ((7 : Int)) (fun t16 => lt [t16] (fun t14 => lt (s7) (fun t15 => lt (t13, t14, t15) (fun t12 => appW (s2.2.2) t12 (fun found_ => lt ((s2.2.1 - (s7.length : Int))) (fun left_ => kn4 (number_, left_, found_))))))))))))))))))))) xs (p1.2.1, p1.2.2.1, p1.2.2.2.1) (fun s6 => law_draw.wp ((7 : Int)) (fun t34 => lt ((7 : Int)) (fun t35 => lt (([] : (List Int))) (fun t36 => lt (t34, t35, t36) (fun t32 => lt (s6.2.2) (fun t33 => lt (t32, t33) Q)))))))))))))))))
abbrev law_plan.ea : Int × Int × Int → List PyData := (fun a : Int × Int × Int => [eI (a.1), eI (a.2.1), eI (a.2.2)])
abbrev law_plan.wf : Int × Int × Int → (T_plan → Prop) → Prop := (fun (a : Int × Int × Int) Q => law_plan.wp a.1 a.2.1 a.2.2 Q)
theorem ok__law_plan : FnOk P w K mg base CX0 4 T.f__law_plan T.fd__law_plan ["mill", "most", "trains", "stations"] (spEW K WmP 3 law_plan.ea e_plan law_plan.wf) := by
  refine ok_EW T.F__law_plan sc__law_plan fun wc cdv A outer s H E hr => ⟨_, (pss_cons (ps_asg (pe_tup (pa_cons (pe_slice (sl_list : SlR _ (rSlL K)) (pe_lst (pa_cons pe_str (pa_cons pe_str (pa_cons pe_str (pa_cons pe_str (pa_cons pe_str pa_nil)))))) po_none (po_some (pv 3))) (pa_cons pe_int (pa_cons (pv 1) (pa_cons (pe_lst pa_nil) pa_nil))))) (pg_tup rfl (pgs_cons (pg_name (i := 5) sc__law_plan.nd rfl (Or.inl rfl)) (pgs_cons (pg_name (i := 6) sc__law_plan.nd rfl (Or.inl rfl)) (pgs_cons (pg_name (i := 7) sc__law_plan.nd rfl (Or.inl rfl)) (pgs_cons (pg_name (i := 8) sc__law_plan.nd rfl (Or.inl rfl)) pgs_nil)))))) (pss_cons (ps_for PassesOwn.never rfl (pi_range1 rfl T.n_range (pa_cons (pv 2) pa_nil)) (pg_name (i := 4) sc__law_plan.nd rfl (Or.inl rfl)) (pss_cons (ps_set (i := 9) sc__law_plan.nd rfl (Or.inl rfl) (pe_ifExp (pt_cmpR op_gt (pv 4) pe_int (nomark _)) (pe_op op_add pe_int (pe_call (ok__law_draw T) (hr.mono (by decide)) rfl T.g__law_draw T.F__law_draw.kp T.b__law_draw .nil pass0 (pa_cons (pv 0) (pa_cons pe_int pa_nil)))) (pe_op op_add pe_int (pe_call (ok__law_draw T) (hr.mono (by decide)) rfl T.g__law_draw T.F__law_draw.kp T.b__law_draw .nil pass0 (pa_cons (pv 0) (pa_cons pe_int pa_nil)))))) (pss_cons (ps_set (i := 9) sc__law_plan.nd rfl (Or.inl rfl) (pe_callB (call_min2 rfl) rfl T.n_min (by decide +kernel) (pa_cons (pv 9) (pa_cons (pv 7) pa_nil)))) (pss_cons (ps_if (pt_cmpR op_eq (pv 9) pe_int (nomark _)) (pss_cons ps_break pss_nil) pss_nil) (pss_cons (ps_set (i := 6) sc__law_plan.nd rfl (Or.inl rfl) (pe_op op_add (pe_op op_add (pv 6) pe_int) (pe_call (ok__law_draw T) (hr.mono (by decide)) rfl T.g__law_draw T.F__law_draw.kp T.b__law_draw .nil pass0 (pa_cons (pv 0) (pa_cons pe_int pa_nil))))) (pss_cons (ps_set (i := 10) sc__law_plan.nd rfl (Or.inl rfl) (pe_call (ok__law_calls T) (hr.mono (by decide)) rfl T.g__law_calls T.F__law_calls.kp T.b__law_calls .nil pass0 (pa_cons (pv 0) (pa_cons (pv 5) (pa_cons (pv 9) (pa_cons (pe_call (ok__law_draw T) (hr.mono (by decide)) rfl T.g__law_draw T.F__law_draw.kp T.b__law_draw .nil pass0 (pa_cons (pv 0) (pa_cons pe_int pa_nil))) pa_nil)))))) (pss_cons (ps_if (PW.pt (pw_and (pt_cmpR (op_neQ hr.units) (pv 8) (pe_lst pa_nil) (nomark _)) (pw_and1 (pt_cmpR op_eq (pe_call (ok__law_draw T) (hr.mono (by decide)) rfl T.g__law_draw T.F__law_draw.kp T.b__law_draw .nil pass0 (pa_cons (pv 0) (pa_cons pe_int pa_nil))) pe_int (nomark _))))) (pss_cons (ps_set (i := 10) sc__law_plan.nd rfl (Or.inl rfl) (pe_call (ok__law_turned T) (hr.mono (by decide)) rfl T.g__law_turned T.F__law_turned.kp T.b__law_turned .nil pass0 (pa_cons (pv 0) (pa_cons (pe_ix (ix_tup : IxR _ (rIxT K)) (pe_call (ok__law_pick_own T) (hr.mono (by decide)) rfl T.g__law_pick T.F__law_pick.kp T.b__law_pick .nil pass0 (pa_cons (pv 0) (pa_cons (pv 8) pa_nil))) pe_int (fun _ _ => rfl)) (pa_cons (pv 9) pa_nil))))) pss_nil) pss_nil) (pss_cons (ps_expr (pe_bm PySem.F.plainAttrs_list PySem.F.slot_list_append PySem.F.type_list_append mt_append (pv 8) (pa_cons (pe_tup (pa_cons (pv 6) (pa_cons (pe_tup (pa_cons (pe_call (ok__law_draw T) (hr.mono (by decide)) rfl T.g__law_draw T.F__law_draw.kp T.b__law_draw .nil pass0 (pa_cons (pv 0) (pa_cons pe_int pa_nil))) pa_nil)) (pa_cons (pv 10) pa_nil)))) pa_nil))) (pss_cons (ps_set (i := 7) sc__law_plan.nd rfl (Or.inl rfl) (pe_op op_sub (pv 7) (pe_callB (call_len_seq : CallR _ _ (rLenQ K)) rfl T.n_len (by decide +kernel) (pa_cons (pv 10) pa_nil)))) pss_nil))))))))) (pss_cons (ps_ret (pe_tup (pa_cons (pe_tup (pa_cons (pe_call (ok__law_draw T) (hr.mono (by decide)) rfl T.g__law_draw T.F__law_draw.kp T.b__law_draw .nil pass0 (pa_cons (pv 0) (pa_cons pe_int pa_nil))) (pa_cons pe_int (pa_cons (pe_tup pa_nil) pa_nil)))) (pa_cons (pe_callTy (call_tuple_of : CallR _ (.type "tuple") (rTupOf K)) rfl T.n_tuple (by decide +kernel) (pa_cons (pv 8) pa_nil)) pa_nil)))) pss_nil))), fun a Q h => ?_⟩
  obtain ⟨most_, trains_, stations_⟩ := a
  show StG K (WmP wc) _ _ [.rt, .dat (eI (most_)), .dat (eI (trains_)), .dat (eI (stations_)), .any, .any, .any, .any, .any, .any, .any] _
  have h : law_plan.wp most_ trains_ stations_ Q := h
  unfold law_plan.wp at h
  refine st_parNM (is := [5, 6, 7, 8]) (n := 4) rfl (show ∀ i ∈ ([5, 6, 7, 8] : List Nat), i < 11 from by decide) (em_dat (e := (eLst eS)) (EvFW.w (w_slL (EvFW.l (EvF.w (e := eS) (xs := ([("ab" : Str), ("cd" : Str), ("ef" : Str), ("gh" : Str), ("x" : Str)] : (List Str))) (evf_lst (ea_consD ev_str (ea_consD ev_str (ea_consD ev_str (ea_consD ev_str (ea_consD ev_str ea_nil))))) (by rintro _ rfl; exact (by show 5 ≤ _; rw [sizeLine_eq]; decide))))) w_no (w_part (EvN.w (e := eI) (a := stations_) (ev_var (i := 3) rfl))))) (em_dat (e := eI) (EvN.w (e := eI) (a := (0 : Int)) ev_int) (em_dat (e := eI) (EvN.w (e := eI) (a := most_) (ev_var (i := 1) rfl)) (em_own (EvF.w (e := e_train) (xs := []) (evf_lst ea_nil (by rintro _ rfl; exact Nat.zero_le _))) em_nil)))) h (fun _ => rfl) rfl (by rw [sizeLine_eq]; decide) fun p1 h => ?_
  refine st_forW (fun s2 : Int × Int × (List T_train) => [.rt, .dat (eI (most_)), .dat (eI (trains_)), .dat (eI (stations_)), .any, .dat ((eLst eS) (p1.1)), .dat (eI (s2.1)), .dat (eI (s2.2.1)), .own ((s2.2.2).map e_train), .any, .any]) (i_rng1W (EvN.w (e := eI) (a := trains_) (ev_var (i := 2) rfl))) h (Le.eq (Le.eq (Le.eq (Le.eq (Le.any (Le.eq (Le.eq (Le.eq (Le.eq (Le.any (Le.any Le.nil))))))))))) (fun s2 x3 => (eg_name (i := 4) (show 4 < 11 by decide))) (fun x3 s2 kn4 kb5 h => ?_) (fun s6 h => ?_)
  · skip
    refine st_setW (e := eI) (show 9 < 11 by decide) (evw_if (e := eI) (EvT.w (b := (decide (x3 > (1 : Int)))) (et_testD (d_gt (ev_var (i := 4) rfl) ev_int))) (w_opI (ec := eI) (f := fun a b => a + b) (fun _ _ _ => .int _) (EvN.w (e := eI) (a := (1 : Int)) ev_int) (evw_callWD (n := 1) (a := (4 : Int)) rfl (ea_consD ev_int ea_nil) (fun _ => rfl))) (w_opI (ec := eI) (f := fun a b => a + b) (fun _ _ _ => .int _) (EvN.w (e := eI) (a := (2 : Int)) ev_int) (evw_callWD (n := 1) (a := (3 : Int)) rfl (ea_consD ev_int ea_nil) (fun _ => rfl)))) h fun many_ h => ?_
    refine st_setW (e := eI) (show 9 < 11 by decide) (EvN.w (e := eI) (a := (if s2.2.1 < many_ then s2.2.1 else many_)) (d_min2 (ev_var (i := 9) rfl) (ev_var (i := 7) rfl))) h fun many_ h => ?_
    refine st_ifD2 (et_testD (d_eqI (ev_var (i := 9) rfl) ev_int)) h (fun h => ?_) (fun h => ?_)
    · skip
      refine st_flat ?_
      exact st_brkSeq ⟨(s2.1, s2.2.1, s2.2.2), (Le.eq (Le.eq (Le.eq (Le.eq (Le.any (Le.eq (Le.eq (Le.eq (Le.eq (Le.any (Le.any Le.nil))))))))))), h⟩
    · skip
      refine st_nextSeq ?_
      refine st_setW (e := eI) (show 6 < 11 by decide) (w_opI (ec := eI) (f := fun a b => a + b) (fun _ _ _ => .int _) (EvN.w (e := eI) (a := (s2.1 + (1 : Int))) (d_add (ev_var (i := 6) rfl) ev_int)) (evw_callWD (n := 1) (a := (3 : Int)) rfl (ea_consD ev_int ea_nil) (fun _ => rfl))) h fun number_ h => ?_
      refine st_setW (e := (eTup e_call)) (show 10 < 11 by decide) (evw_callW (n := 3) (ea := law_calls.ea) (er := (eTup e_call)) (w := law_calls.wf) rfl (eaw_cons (EvN.w (e := (eLst eS)) (a := p1.1) (ev_var (i := 5) rfl)) (eaw_cons (EvN.w (e := eI) (a := many_) (ev_var (i := 9) rfl)) (eaw_one (evw_callWD (n := 1) (a := (12 : Int)) rfl (ea_consD ev_int ea_nil) (fun _ => rfl))))) (fun _ => rfl)) h fun calls_ h => ?_
      refine st_joinW (fun s7 : (List T_call) => [.rt, .dat (eI (most_)), .dat (eI (trains_)), .dat (eI (stations_)), .dat (eI (x3)), .dat ((eLst eS) (p1.1)), .dat (eI (number_)), .dat (eI (s2.2.1)), .own ((s2.2.2).map e_train), .dat (eI (many_)), .dat ((eTup e_call) (s7))]) h (fun k8 h => ?_) (fun s7 h => ?_)
      · skip
        refine st_ifW (etw_and (etw_test (w_neQ (EvLW.h (w_own (e := e_train) (xs := s2.2.2) rfl)) (EvW.h (e := (eLst e_train)) (EvFW.w (EvF.w (e := e_train) (xs := []) (evf_lst ea_nil (by rintro _ rfl; exact Nat.zero_le _))))) (EqE.lst (EqE.t3 EqE.int (EqE.tup EqE.int) (EqE.tup (EqE.t2 EqE.str EqE.int)))) (by decide))) (etw_test (w_eqI (evw_callWD (n := 1) (a := (3 : Int)) rfl (ea_consD ev_int ea_nil) (fun _ => rfl)) (EvN.w (e := eI) (a := (0 : Int)) ev_int)))) h (fun h => ?_) (fun h => ?_)
        · skip
          refine st_flat ?_
          refine st_setW (e := (eTup e_call)) (show 10 < 11 by decide) (evw_callW (n := 2) (ea := law_turned.ea) (er := (eTup e_call)) (w := law_turned.wf) rfl (eaw_cons (w_prT (e := e_train) (ec := (eTup e_call)) (f := fun a => [eI (a.1), (eTup eI) (a.2.1), (eTup e_call) (a.2.2)]) (p := fun a => a.2.2) (w_pickO (i := 0) (j := 8) (e := e_train) (xs := s2.2.2) rfl rfl) ev_int (fun _ => rfl) (fun _ => rfl)) (eaw_one (EvN.w (e := eI) (a := many_) (ev_var (i := 9) rfl)))) (fun _ => rfl)) h fun calls_ h => ?_
          refine st_nextSeq ?_
          exact st_next ⟨calls_, (Le.eq (Le.eq (Le.eq (Le.eq (Le.eq (Le.eq (Le.eq (Le.eq (Le.eq (Le.eq (Le.eq Le.nil))))))))))), h⟩
        · skip
          refine st_nextSeq ?_
          exact st_next ⟨calls_, (Le.eq (Le.eq (Le.eq (Le.eq (Le.eq (Le.eq (Le.eq (Le.eq (Le.eq (Le.eq (Le.eq Le.nil))))))))))), h⟩
      · skip
        refine st_appW (i := 8) (e := e_train) (xs := s2.2.2) rfl (fun l x xs H Q h0 h1 h2 => ⟨l, xs, x, rfl, rfl, h0, h1, h2⟩) (evw_tupW (ec := e_train) (eaw_cons (EvN.w (e := eI) (a := number_) (ev_var (i := 6) rfl)) (eaw_cons (evw_tupH (f := fun a => [a]) (e := eI) (eaw_one (evw_callWD (n := 1) (a := (7 : Int)) rfl (ea_consD ev_int ea_nil) (fun _ => rfl))) (fun _ => rfl) (fun _ => (by show 1 ≤ _; rw [sizeLine_eq]; decide))) (eaw_one (EvN.w (e := (eTup e_call)) (a := s7) (ev_var (i := 10) rfl))))) (fun _ => rfl) (fun _ => (by show 3 ≤ _; rw [sizeLine_eq]; decide))) h fun found_ h => ?_
        refine st_setW (e := eI) (show 7 < 11 by decide) (EvN.w (e := eI) (a := (s2.2.1 - (s7.length : Int))) (d_sub (ev_var (i := 7) rfl) (d_lenT (e := e_call) (ev_var (i := 10) rfl)))) h fun left_ h => ?_
        exact st_next ⟨(number_, left_, found_), (Le.eq (Le.eq (Le.eq (Le.eq (Le.any (Le.eq (Le.eq (Le.eq (Le.eq (Le.any (Le.any Le.nil))))))))))), h⟩
  · skip
    exact st_retW (e := e_plan) (evw_tupW (ec := e_plan) (eaw_cons (evw_tupW (ec := e_cal) (eaw_cons (evw_callWD (n := 1) (a := (7 : Int)) rfl (ea_consD ev_int ea_nil) (fun _ => rfl)) (eaw_cons (EvN.w (e := eI) (a := (7 : Int)) ev_int) (eaw_one (EvN.w (e := (eTup eI)) (a := ([] : (List Int))) (ev_tupD ea_nil (by show 0 ≤ _; rw [sizeLine_eq]; decide)))))) (fun _ => rfl) (fun _ => (by show 3 ≤ _; rw [sizeLine_eq]; decide))) (eaw_one (w_tupL (e := e_train) (w_own (e := e_train) (xs := s6.2.2) rfl)))) (fun _ => rfl) (fun _ => (by show 2 ≤ _; rw [sizeLine_eq]; decide))) h fun a q => ⟨a, rfl, q⟩

end
end K27

namespace K27
open PySem PySem.Spec PyProof.Rows L2 Dl
section
variable {P : Program} {w : World} {K : PySem.W.Frag} {mg : Str → Option Value} {base : Heap} (T : Txt K mg)
def law_threads.wp (plan_ : T_plan) (Q : T_told → Prop) : Prop :=
  lt ([] : (List (T_mark × Int))) (fun t37 => lt ([] : T_threads) (fun t38 => lt ([] : List (Str × Int × Int × Int)) (fun t39 => lt (t37, t38, t39, ()) (fun p1 => lt (plan_.2) (fun xs => loopW (fun x3 (s2 : (List (T_mark × Int)) × T_threads × (List (Str × Int × Int × Int))) kn4 kb5 => lt ((x3.2.2.length : Int)) (fun t21 => rngW 0 t21 (fun t20 => fmW t20 (fun x7 k8 => lt ((x3.1, x7)) (fun y => k8 (some y))) (fun t9 => lt (("train" : Str), (Sum.inl x3.1)) (fun t10 => dputW (s2.2.1) t10 t9 (fun found_ => lt (x3.2.2) (fun t19 => lt (enG 0 t19) (fun xs => loopW (fun x12 (s11 : (List (T_mark × Int)) × (List (Str × Int × Int × Int))) kn13 kb14 => lt (x12.2.2) (fun t16 => lt (x3.1, x12.1) (fun t17 => dputW (s11.1) t17 t16 (fun minutes_ => lt ((x12.2.1, x12.2.2, x3.1, x12.1)) (fun t18 => appW (s11.2) t18 (fun rows_ => kn13 (minutes_, rows_))))))) xs (s2.1, s2.2.2) (fun s15 => kn4 (s15.1, found_, s15.2)))))))))) xs (p1.1, p1.2.1, p1.2.2.1) (fun s6 => lt (s6.2.2) (fun t36 => lt (srtK (fun a : (Str × Int × Int × Int) => [.inr a.1, .inl a.2.1, .inl a.2.2.1, .inl a.2.2.2]) t36) (fun xs => loopW (fun x23 (s22 : T_threads) kn24 kb25 => lt (s22) (fun t31 => lt ((("station" : Str), (Sum.inr x23.1))) (fun t32 => lt ([] : List T_mark) (fun t33 => lt ((dget t31 t32).getD t33) (fun t29 => lt ([(x23.2.2.1, x23.2.2.2)] : (List T_mark)) (fun t30 => gd (t29.length + t30.length ≤ sizeLine) (lt (t29 ++ t30) (fun t27 => lt (("station" : Str), (Sum.inr x23.1)) (fun t28 => dputW (s22) t28 t27 (fun found_ => kn24 found_)))))))))) xs s6.2.1 (fun s26 => lt (s26) (fun t34 => lt (s6.1) (fun t35 => lt (t34, t35) Q)))))))))))
abbrev law_threads.ea : T_plan → List PyData := (fun a : T_plan => [e_plan (a)])
abbrev law_threads.wf : T_plan → (T_told → Prop) → Prop := (fun (a : T_plan) Q => law_threads.wp a Q)
theorem ok__law_threads : FnOk P w K mg base CX0 1 T.f__law_threads T.fd__law_threads ["plan"] (spE K 1 law_threads.ea e_told law_threads.wf) := by
  refine ok_E T.F__law_threads sc__law_threads fun cdv A outer s H E hr => ⟨_, (pss_cons (ps_par3 (i := 1) (j := 2) (l := 3) rfl sc__law_threads.nd rfl rfl rfl (by decide) (by decide) (by decide) rfl rfl rfl (pa_cons pe_dnewT (pa_cons pe_dnewT (pa_cons (pe_lst pa_nil) pa_nil))) rfl) (pss_cons (ps_for PassesOwn.never rfl (pi_tup (pe_ix (ix_tup : IxR _ (rIxT K)) (pv 0) pe_int (fun _ _ => rfl))) (pg_tup rfl (pgs_cons (pg_name (i := 4) sc__law_threads.nd rfl (Or.inr rfl)) (pgs_cons (pg_name (i := 5) sc__law_threads.nd rfl (Or.inl rfl)) (pgs_cons (pg_name (i := 6) sc__law_threads.nd rfl (Or.inl rfl)) pgs_nil)))) (pss_cons (ps_asg (pe_lc (own := [("place", 9)]) rfl sc__law_threads.nd (pi_range1 rfl T.n_range (pa_cons (pe_callB (call_len_seq : CallR _ _ (rLenQ K)) rfl T.n_len (by decide +kernel) (pa_cons (pv 6) pa_nil)) pa_nil)) (blkOk_by (N := N__law_threads) (sc := defScope s__law_threads) (by decide +kernel)) (fun _ _ _ _ _ => pg_name (i := 9) sc__law_threads.nd rfl (Or.inl rfl)) (fun _ _ _ _ _ => pts_nil) (fun _ _ _ _ _ => (pe_tup (pa_cons (pv 4) (pa_cons (pv 9) pa_nil))))) (pg_sub (pv 2) (pe_tup (pa_cons pe_str (pa_cons (pv 4) pa_nil))) (set_dict (hu_of hr)))) (pss_cons (ps_for PassesOwn.never rfl (pi_enumT rfl T.n_enumerate (pa_cons (pv 6) pa_nil)) (pg_tup rfl (pgs_cons (pg_name (i := 9) sc__law_threads.nd rfl (Or.inl rfl)) (pgs_cons (pg_tup rfl (pgs_cons (pg_name (i := 7) sc__law_threads.nd rfl (Or.inl rfl)) (pgs_cons (pg_name (i := 8) sc__law_threads.nd rfl (Or.inl rfl)) pgs_nil))) pgs_nil))) (pss_cons (ps_asg (pv 8) (pg_sub (pv 1) (pe_tup (pa_cons (pv 4) (pa_cons (pv 9) pa_nil))) (set_dict (hu_of hr)))) (pss_cons (ps_expr (pe_bm PySem.F.plainAttrs_list PySem.F.slot_list_append PySem.F.type_list_append mt_append (pv 3) (pa_cons (pe_tup (pa_cons (pv 7) (pa_cons (pv 8) (pa_cons (pv 4) (pa_cons (pv 9) pa_nil))))) pa_nil))) pss_nil))) pss_nil))) (pss_cons (ps_for PassesOwn.never rfl (pi_list (pe_callB (cr_sortM (shape := (fun i => [true, false, false, false].getD i false)) : CallR _ _ (rSortM K (fun i => [true, false, false, false].getD i false))) rfl T.n_sorted (by decide +kernel) (pa_cons (pv 3) pa_nil))) (pg_tup rfl (pgs_cons (pg_name (i := 7) sc__law_threads.nd rfl (Or.inl rfl)) (pgs_cons (pg_name (i := 8) sc__law_threads.nd rfl (Or.inl rfl)) (pgs_cons (pg_name (i := 4) sc__law_threads.nd rfl (Or.inr rfl)) (pgs_cons (pg_name (i := 9) sc__law_threads.nd rfl (Or.inl rfl)) pgs_nil))))) (pss_cons (ps_asg (pe_op (op_catLL : OpR _ _ (rCatL K)) (pe_dgetG2 (hu_of hr) (pv 2) (pe_tup (pa_cons pe_str (pa_cons (pv 7) pa_nil))) (pe_lst pa_nil) ⟨rfl, rfl, rfl, rfl⟩) (pe_lst (pa_cons (pe_tup (pa_cons (pv 4) (pa_cons (pv 9) pa_nil))) pa_nil))) (pg_sub (pv 2) (pe_tup (pa_cons pe_str (pa_cons (pv 7) pa_nil))) (set_dict (hu_of hr)))) pss_nil)) (pss_cons (ps_frz (i := 2) (ps_frz (i := 1) (ps_ret (pe_lst (pa_cons (pv 2) (pa_cons (pv 1) pa_nil)))))) pss_nil)))), fun plan_ Q h => ?_⟩
  show StG K Fx.non _ _ [.dat (e_plan (plan_)), .any, .any, .any, .any, .any, .any, .any, .any, .any] _
  have h : law_threads.wp plan_ Q := h
  unfold law_threads.wp at h
  refine st_par3M (k1 := (fun p1 => Sk.dT (kT2 kI kI) eI (p1.1))) (k2 := (fun p1 => Sk.dT (kT2 kS kK) (eLst e_mark) (p1.2.1))) (k3 := (fun p1 => .own ((p1.2.2.1).map (eT4 eS eI eI eI)))) (show 1 < 10 by decide) (show 2 < 10 by decide) (show 3 < 10 by decide) (em_dicT (f := (kT2 kI kI)) (e := eI) (em_dicT (f := (kT2 kS kK)) (e := (eLst e_mark)) (em_own (EvF.w (e := (eT4 eS eI eI eI)) (xs := []) (evf_lst ea_nil (by rintro _ rfl; exact Nat.zero_le _))) em_nil))) h (fun _ => rfl) fun p1 h => ?_
  refine st_forW (fun s2 : (List (T_mark × Int)) × T_threads × (List (Str × Int × Int × Int)) => [.dat (e_plan (plan_)), Sk.dT (kT2 kI kI) eI (s2.1), Sk.dT (kT2 kS kK) (eLst e_mark) (s2.2.1), .own ((s2.2.2).map (eT4 eS eI eI eI)), .any, .any, .any, .any, .any, .any]) (i_tupW (e := e_train) (EvN.w (e := (eTup e_train)) (a := plan_.2) (d_ixT (ds := [e_cal (plan_.1), (eTup e_train) (plan_.2)]) (ev_var (i := 0) rfl) ev_int rfl))) h (Le.eq (Le.eq (Le.eq (Le.eq (Le.any (Le.any (Le.any (Le.any (Le.any (Le.any Le.nil)))))))))) (fun s2 x3 => (eg_tup (ds := [eI (x3.1), (eTup eI) (x3.2.1), (eTup e_call) (x3.2.2)]) (egs_cons (eg_name (i := 4) (show 4 < 10 by decide)) (egs_cons (eg_name (i := 5) (show 5 < 10 by decide)) (egs_cons (eg_name (i := 6) (show 6 < 10 by decide)) egs_nil))) rfl)) (fun x3 s2 kn4 kb5 h => ?_) (fun s6 h => ?_)
  · skip
    refine st_dputT (i := 2) (f := (kT2 kS kK)) (e := (eLst e_mark)) (ps := s2.2.1) (KyI.t2 KyI.str KyI.key) rfl (EvFW.w (evfw_fm (vs := [9]) (eb := e_mark) (f := (fun x7 k8 => lt ((x3.1, x7)) (fun y => k8 (some y)))) (hv_of (n := 10) rfl (by decide)) (i_rng1W (EvN.w (e := eI) (a := (x3.2.2.length : Int)) (d_lenT (e := e_call) (ev_var (i := 6) rfl)))) (by decide) (fun x7 => (eg_name (i := 9) (show 9 < 10 by decide))) (fun x7 k8 h => ⟨_, pt_yes, fun _ => (EvN.w (e := e_mark) (a := (x3.1, x7)) (ev_tupD (ea_consD (ev_var (i := 4) rfl) (ea_consD (ev_var (i := 9) rfl) ea_nil)) (by show 2 ≤ _; rw [sizeLine_eq]; decide))) _ h, fun z => nomatch z⟩))) (eaw_pure (ea := fun k => ((kT2 kS kK) k).map kD) (a := (("train" : Str), (Sum.inl x3.1))) (ea_consD ev_str (ea_consD (ev_var (i := 4) rfl) ea_nil))) (fun _ => by show 2 ≤ _; rw [sizeLine_eq]; decide) h fun found_ h => ?_
    refine st_forW (fun s11 : (List (T_mark × Int)) × (List (Str × Int × Int × Int)) => [.dat (e_plan (plan_)), Sk.dT (kT2 kI kI) eI (s11.1), Sk.dT (kT2 kS kK) (eLst e_mark) (found_), .own ((s11.2).map (eT4 eS eI eI eI)), .dat (eI (x3.1)), .dat ((eTup eI) (x3.2.1)), .dat ((eTup e_call) (x3.2.2)), .any, .any, .any]) (i_enumT (e := e_call) (EvN.w (e := (eTup e_call)) (a := x3.2.2) (ev_var (i := 6) rfl))) h (Le.eq (Le.eq (Le.eq (Le.eq (Le.eq (Le.eq (Le.eq (Le.any (Le.any (Le.any Le.nil)))))))))) (fun s11 x12 => (eg_tup (ds := [eI (x12.1), e_call (x12.2)]) (egs_cons (eg_name (i := 9) (show 9 < 10 by decide)) (egs_cons (eg_tup (ds := [eS (x12.2.1), eI (x12.2.2)]) (egs_cons (eg_name (i := 7) (show 7 < 10 by decide)) (egs_cons (eg_name (i := 8) (show 8 < 10 by decide)) egs_nil)) rfl) egs_nil)) rfl)) (fun x12 s11 kn13 kb14 h => ?_) (fun s15 h => ?_)
    · skip
      refine st_dputT (i := 1) (f := (kT2 kI kI)) (e := eI) (ps := s11.1) (KyI.t2 KyI.int KyI.int) rfl (EvN.w (e := eI) (a := x12.2.2) (ev_var (i := 8) rfl)) (eaw_pure (ea := fun k => ((kT2 kI kI) k).map kD) (a := (x3.1, x12.1)) (ea_consD (ev_var (i := 4) rfl) (ea_consD (ev_var (i := 9) rfl) ea_nil))) (fun _ => by show 2 ≤ _; rw [sizeLine_eq]; decide) h fun minutes_ h => ?_
      refine st_appW (i := 3) (e := (eT4 eS eI eI eI)) (xs := s11.2) rfl (fun l x xs H Q h0 h1 h2 => ⟨l, xs, x, rfl, rfl, h0, h1, h2⟩) (EvN.w (e := (eT4 eS eI eI eI)) (a := (x12.2.1, x12.2.2, x3.1, x12.1)) (ev_tupD (ea_consD (ev_var (i := 7) rfl) (ea_consD (ev_var (i := 8) rfl) (ea_consD (ev_var (i := 4) rfl) (ea_consD (ev_var (i := 9) rfl) ea_nil)))) (by show 4 ≤ _; rw [sizeLine_eq]; decide))) h fun rows_ h => ?_
      exact st_next ⟨(minutes_, rows_), (Le.eq (Le.eq (Le.eq (Le.eq (Le.eq (Le.eq (Le.eq (Le.any (Le.any (Le.any Le.nil)))))))))), h⟩
    · skip
      exact st_next ⟨(s15.1, found_, s15.2), (Le.eq (Le.eq (Le.eq (Le.eq (Le.any (Le.any (Le.any (Le.any (Le.any (Le.any Le.nil)))))))))), h⟩
  · skip
    refine st_forW (fun s22 : T_threads => [.dat (e_plan (plan_)), Sk.dT (kT2 kI kI) eI (s6.1), Sk.dT (kT2 kS kK) (eLst e_mark) (s22), .own ((s6.2.2).map (eT4 eS eI eI eI)), .any, .any, .any, .any, .any, .any]) (i_listW (e := (eT4 eS eI eI eI)) (EvFW.w (w_sortK (fun a : (Str × Int × Int × Int) => [.inr a.1, .inl a.2.1, .inl a.2.2.1, .inl a.2.2.2]) (w_own (e := (eT4 eS eI eI eI)) (xs := s6.2.2) rfl) (fun _ => rfl) (fun _ => ⟨List.cons_ne_nil _ _, rfl, rfl, rfl, rfl, trivial⟩)))) h (Le.eq (Le.eq (Le.eq (Le.eq (Le.any (Le.any (Le.any (Le.any (Le.any (Le.any Le.nil)))))))))) (fun s22 x23 => (eg_tup (ds := [eS (x23.1), eI (x23.2.1), eI (x23.2.2.1), eI (x23.2.2.2)]) (egs_cons (eg_name (i := 7) (show 7 < 10 by decide)) (egs_cons (eg_name (i := 8) (show 8 < 10 by decide)) (egs_cons (eg_name (i := 4) (show 4 < 10 by decide)) (egs_cons (eg_name (i := 9) (show 9 < 10 by decide)) egs_nil)))) rfl)) (fun x23 s22 kn24 kb25 h => ?_) (fun s26 h => ?_)
    · skip
      refine st_dputT (i := 2) (f := (kT2 kS kK)) (e := (eLst e_mark)) (ps := s22) (KyI.t2 KyI.str KyI.key) rfl (EvFW.w (w_catL (EvW.l (e := e_mark) (w_dget2T (KyI.t2 KyI.str KyI.key) (dT_own (f := (kT2 kS kK)) (e := (eLst e_mark)) (ps := s22) rfl) (EvN.w (e := (eT2 eS eK)) (a := (("station" : Str), (Sum.inr x23.1))) (ev_tupD (ea_consD ev_str (ea_consD (ev_var (i := 7) rfl) ea_nil)) (by show 2 ≤ _; rw [sizeLine_eq]; decide))) (EvFW.w (EvF.w (e := e_mark) (xs := []) (evf_lst ea_nil (by rintro _ rfl; exact Nat.zero_le _)))))) (EvFW.l (EvF.w (e := e_mark) (xs := ([(x23.2.2.1, x23.2.2.2)] : (List T_mark))) (evf_lst (ea_consD (ev_tupD (ea_consD (ev_var (i := 4) rfl) (ea_consD (ev_var (i := 9) rfl) ea_nil)) (by show 2 ≤ _; rw [sizeLine_eq]; decide)) ea_nil) (by rintro _ rfl; exact (by show 1 ≤ _; rw [sizeLine_eq]; decide))))))) (eaw_pure (ea := fun k => ((kT2 kS kK) k).map kD) (a := (("station" : Str), (Sum.inr x23.1))) (ea_consD ev_str (ea_consD (ev_var (i := 7) rfl) ea_nil))) (fun _ => by show 2 ≤ _; rw [sizeLine_eq]; decide) h fun found_ h => ?_
      exact st_next ⟨found_, (Le.eq (Le.eq (Le.eq (Le.eq (Le.any (Le.any (Le.any (Le.any (Le.any (Le.any Le.nil)))))))))), h⟩
    · skip
      refine st_frzT (i := 2) (f := (kT2 kS kK)) (e := (eLst e_mark)) (ps := s26) rfl ?_
      refine st_frzT (i := 1) (f := (kT2 kI kI)) (e := eI) (ps := s6.1) rfl ?_
      exact st_retW (e := e_told) (evw_lstUW (ec := e_told) (eaw_cons (EvN.w (e := e_threads) (a := s26) (ev_var (i := 2) rfl)) (eaw_one (EvN.w (e := (eDicT (kT2 kI kI) eI)) (a := s6.1) (ev_var (i := 1) rfl)))) (fun _ => rfl) (fun _ => (by show 2 ≤ _; rw [sizeLine_eq]; decide))) h fun a q => ⟨a, rfl, q⟩

end
end K27

namespace K27
open PySem PySem.Spec PyProof.Rows L2 Dl
section
variable {P : Program} {w : World} {K : PySem.W.Frag} {mg : Str → Option Value} {base : Heap} (T : Txt K mg)
def law_all_gaps.wp (threads_ : T_told) (Q : (List T_cut) → Prop) : Prop :=
  lt ([] : List T_cut) (fun found_ => lt (threads_.1) (fun t18 => lt (List.map (fun p => p.1) t18) (fun xs => loopW (fun x2 (s1 : (List T_cut)) kn3 kb4 => lt ((1 : Int)) (fun t12 => lt (threads_.1) (fun t15 => lt ((x2.1, x2.2)) (fun t16 => dgetW t15 t16 (fun t14 => lt (t14.length : Int) (fun t13 => rngW t12 t13 (fun xs => loopW (fun x7 (s6 : (List T_cut)) kn8 kb9 => lt ((x2.1, x2.2, x7)) (fun t11 => appW (s6) t11 (fun found_ => kn8 found_))) xs s1 (fun s10 => kn3 s10)))))))) xs found_ (fun s5 => lt (s5) (fun t17 => sortXW (fun a : T_cut => [.inr a.1, a.2.1, .inl a.2.2]) t17 Q)))))
abbrev law_all_gaps.ea : T_told → List PyData := (fun a : T_told => [e_told (a)])
abbrev law_all_gaps.wf : T_told → ((List T_cut) → Prop) → Prop := (fun (a : T_told) Q => law_all_gaps.wp a Q)
theorem ok__law_all_gaps : FnOk P w K mg base CX0 1 T.f__law_all_gaps T.fd__law_all_gaps ["threads"] (spE K 1 law_all_gaps.ea (eTup e_cut) law_all_gaps.wf) := by
  refine ok_E T.F__law_all_gaps sc__law_all_gaps fun cdv A outer s H E hr => ⟨_, (pss_cons (ps_set (i := 1) sc__law_all_gaps.nd rfl (Or.inl rfl) (pe_lst pa_nil)) (pss_cons (ps_for PassesOwn.never rfl (pi_keysU (pe_ix (ix_list : IxR _ (rIxL K)) (pv 0) pe_int (fun _ _ => rfl))) (pg_tup rfl (pgs_cons (pg_name (i := 2) sc__law_all_gaps.nd rfl (Or.inl rfl)) (pgs_cons (pg_name (i := 3) sc__law_all_gaps.nd rfl (Or.inl rfl)) pgs_nil))) (pss_cons (ps_for PassesOwn.never rfl (pi_range2 rfl T.n_range (pa_cons pe_int (pa_cons (pe_callB (call_len_seq : CallR _ _ (rLenQ K)) rfl T.n_len (by decide +kernel) (pa_cons (pe_dgetG (hu_of hr) (pe_ix (ix_list : IxR _ (rIxL K)) (pv 0) pe_int (fun _ _ => rfl)) (pe_tup (pa_cons (pv 2) (pa_cons (pv 3) pa_nil))) (fun _ _ => rfl)) pa_nil)) pa_nil))) (pg_name (i := 4) sc__law_all_gaps.nd rfl (Or.inl rfl)) (pss_cons (ps_expr (pe_bm PySem.F.plainAttrs_list PySem.F.slot_list_append PySem.F.type_list_append mt_append (pv 1) (pa_cons (pe_tup (pa_cons (pv 2) (pa_cons (pv 3) (pa_cons (pv 4) pa_nil)))) pa_nil))) pss_nil)) pss_nil)) (pss_cons (ps_ret (pe_callTy (call_tuple_of : CallR _ (.type "tuple") (rTupOf K)) rfl T.n_tuple (by decide +kernel) (pa_cons (pe_callB (cr_sortX : CallR _ _ (rSortX K)) rfl T.n_sorted (by decide +kernel) (pa_cons (pv 1) pa_nil)) pa_nil))) pss_nil))), fun threads_ Q h => ?_⟩
  show StG K Fx.non _ _ [.dat (e_told (threads_)), .any, .any, .any, .any] _
  have h : law_all_gaps.wp threads_ Q := h
  unfold law_all_gaps.wp at h
  refine st_setF (show 1 < 5 by decide) (EvF.w (e := e_cut) (xs := []) (evf_lst ea_nil (by rintro _ rfl; exact Nat.zero_le _))) h fun found_ h => ?_
  refine st_forW (fun s1 : (List T_cut) => [.dat (e_told (threads_)), .own ((s1).map e_cut), .any, .any, .any]) (i_keysT (f := (kT2 kS kK)) (ek := (eT2 eS eK)) (e := (eLst e_mark)) (EvN.w (e := e_threads) (a := threads_.1) (d_ixL (ds := [e_threads (threads_.1), (eDicT (kT2 kI kI) eI) (threads_.2)]) (ev_var (i := 0) rfl) ev_int rfl)) (fun _ => rfl)) h (Le.eq (Le.eq (Le.any (Le.any (Le.any Le.nil))))) (fun s1 x2 => (eg_tup (ds := [eS (x2.1), eK (x2.2)]) (egs_cons (eg_name (i := 2) (show 2 < 5 by decide)) (egs_cons (eg_name (i := 3) (show 3 < 5 by decide)) egs_nil)) rfl)) (fun x2 s1 kn3 kb4 h => ?_) (fun s5 h => ?_)
  · skip
    refine st_forW (fun s6 : (List T_cut) => [.dat (e_told (threads_)), .own ((s6).map e_cut), .dat (eS (x2.1)), .dat (eK (x2.2)), .any]) (i_rng2W (EvN.w (e := eI) (a := (1 : Int)) ev_int) (w_lenL (e := e_mark) (EvW.l (e := e_mark) (w_dgetT (KyI.t2 KyI.str KyI.key) (EvW.dT (f := (kT2 kS kK)) (e := (eLst e_mark)) (EvN.w (e := e_threads) (a := threads_.1) (d_ixL (ds := [e_threads (threads_.1), (eDicT (kT2 kI kI) eI) (threads_.2)]) (ev_var (i := 0) rfl) ev_int rfl))) (EvN.w (e := (eT2 eS eK)) (a := (x2.1, x2.2)) (ev_tupD (ea_consD (ev_var (i := 2) rfl) (ea_consD (ev_var (i := 3) rfl) ea_nil)) (by show 2 ≤ _; rw [sizeLine_eq]; decide))))))) h (Le.eq (Le.eq (Le.eq (Le.eq (Le.any Le.nil))))) (fun s6 x7 => (eg_name (i := 4) (show 4 < 5 by decide))) (fun x7 s6 kn8 kb9 h => ?_) (fun s10 h => ?_)
    · skip
      refine st_appW (i := 1) (e := e_cut) (xs := s6) rfl (fun l x xs H Q h0 h1 h2 => ⟨l, xs, x, rfl, rfl, h0, h1, h2⟩) (EvN.w (e := e_cut) (a := (x2.1, x2.2, x7)) (ev_tupD (ea_consD (ev_var (i := 2) rfl) (ea_consD (ev_var (i := 3) rfl) (ea_consD (ev_var (i := 4) rfl) ea_nil))) (by show 3 ≤ _; rw [sizeLine_eq]; decide))) h fun found_ h => ?_
      exact st_next ⟨found_, (Le.eq (Le.eq (Le.eq (Le.eq (Le.any Le.nil))))), h⟩
    · skip
      exact st_next ⟨s10, (Le.eq (Le.eq (Le.any (Le.any (Le.any Le.nil))))), h⟩
  · skip
    exact st_retW (e := (eTup e_cut)) (w_tupL (e := e_cut) (EvFW.l (w_sortX (fun a : T_cut => [.inr a.1, a.2.1, .inl a.2.2]) true (w_own (e := e_cut) (xs := s5) rfl) (fun _ => rfl) (fun _ => ⟨_, _, rfl, rfl⟩)))) h fun a q => ⟨a, rfl, q⟩

end
end K27

namespace K27
open PySem PySem.Spec PyProof.Rows L2 Dl
section
variable {P : Program} {w : World} {K : PySem.W.Frag} {mg : Str → Option Value} {base : Heap} (T : Txt K mg)
def law_some.wp (items_ : (List T_cut)) (share_ : Int) (Q : (List T_cut) → Prop) : Prop :=
  lt (items_) (fun t5 => fmW t5 (fun x1 k2 => law_draw.wp (share_) (fun t3 => lt ((0 : Int)) (fun t4 => lt ((decide (t3 = t4))) (fun b => ifW b (lt (x1) (fun y => k2 (some y))) (k2 none))))) Q)
abbrev law_some.ea : (List T_cut) × Int → List PyData := (fun a : (List T_cut) × Int => [(eTup e_cut) (a.1), eI (a.2)])
abbrev law_some.wf : (List T_cut) × Int → ((List T_cut) → Prop) → Prop := (fun (a : (List T_cut) × Int) Q => law_some.wp a.1 a.2 Q)
theorem ok__law_some : FnOk P w K mg base CX0 2 T.f__law_some T.fd__law_some ["mill", "items", "share"] (spEW K WmP 2 law_some.ea (eTup e_cut) law_some.wf) := by
  refine ok_EW T.F__law_some sc__law_some fun wc cdv A outer s H E hr => ⟨_, (pss_cons (ps_ret (pe_callTy (call_tuple_of : CallR _ (.type "tuple") (rTupOf K)) rfl T.n_tuple (by decide +kernel) (pa_cons (pe_lc (own := [("item", 3)]) rfl sc__law_some.nd (pi_tup (pv 1)) (blkOk_by (N := N__law_some) (sc := defScope s__law_some) (by decide +kernel)) (fun _ _ _ _ _ => pg_name (i := 3) sc__law_some.nd rfl (Or.inl rfl)) (fun _ _ _ _ _ => pts_one (pt_cmpR op_eq (pe_call (ok__law_draw T) (hr.mono (by decide)) rfl T.g__law_draw T.F__law_draw.kp T.b__law_draw .nil pass0 (pa_cons (pv 0) (pa_cons (pv 2) pa_nil))) pe_int (nomark _))) (fun _ _ _ _ _ => (pv 3))) pa_nil))) pss_nil), fun a Q h => ?_⟩
  obtain ⟨items_, share_⟩ := a
  show StG K (WmP wc) _ _ [.rt, .dat ((eTup e_cut) (items_)), .dat (eI (share_)), .any] _
  have h : law_some.wp items_ share_ Q := h
  unfold law_some.wp at h
  exact st_retW (e := (eTup e_cut)) (w_tupL (e := e_cut) (EvFW.l (evfw_fm (vs := [3]) (eb := e_cut) (f := (fun x1 k2 => law_draw.wp (share_) (fun t3 => lt ((0 : Int)) (fun t4 => lt ((decide (t3 = t4))) (fun b => ifW b (lt (x1) (fun y => k2 (some y))) (k2 none)))))) (hv_of (n := 4) rfl (by decide)) (i_tupW (e := e_cut) (EvN.w (e := (eTup e_cut)) (a := items_) (ev_var (i := 1) rfl))) (by decide) (fun x1 => (eg_name (i := 3) (show 3 < 4 by decide))) (fun x1 k2 h => ⟨fun b => ifW b (lt (x1) (fun y => k2 (some y))) (k2 none), (etw_test (w_eqI (evw_callWD (n := 1) (a := share_) rfl (ea_consD (ev_var (i := 2) rfl) ea_nil) (fun _ => rfl)) (EvN.w (e := eI) (a := (0 : Int)) ev_int))) _ h, fun z => (EvN.w (e := e_cut) (a := x1) (ev_var (i := 3) rfl)) _ (ifW_yes z rfl), fun z => ifW_no z rfl⟩)))) h fun a q => ⟨a, rfl, q⟩

end
end K27

namespace K27
open PySem PySem.Spec PyProof.Rows L2 Dl
section
variable {P : Program} {w : World} {K : PySem.W.Frag} {mg : Str → Option Value} {base : Heap} (T : Txt K mg)
def law.wp (Q : Bool → Prop) : Prop :=
  lt ((4 : Int)) (fun t51 => rngW 0 t51 (fun xs => loopW (fun x2 (s1 : Unit) kn3 kb4 => lt ((8 : Int)) (fun t49 => law_draw.wp ((19 : Int)) (fun t50 => lt ((t49 + t50)) (fun t42 => lt ((2 : Int)) (fun t47 => law_draw.wp ((6 : Int)) (fun t48 => lt ((t47 + t48)) (fun t43 => lt ((2 : Int)) (fun t45 => law_draw.wp ((4 : Int)) (fun t46 => lt ((t45 + t46)) (fun t44 => law_plan.wp t42 t43 t44 (fun plan_ => law_threads.wp (plan_) (fun t41 => law_all_gaps.wp t41 (fun gaps_ => lt (([] : (List T_cut))) (fun t37 => lt (gaps_) (fun t38 => law_some.wp (gaps_) ((2 : Int)) (fun t39 => law_some.wp (gaps_) ((4 : Int)) (fun t40 => lt [t37, t38, t39, t40] (fun lots_ => lt (lots_) (fun t34 => lt (([("station" : Str), ("train" : Str)] : (List Str))) (fun t36 => fmW t36 (fun x6 k9 => lt (gaps_) (fun t10 => fmW t10 (fun x7 k8 => ifW ((decide (x7.1 = x6))) (lt (x7) (fun y => k8 (some y))) (k8 none)) (fun y => k9 (some y)))) (fun t35 => gd (t34.length + t35.length ≤ sizeLine) (lt (t34 ++ t35) (fun lots_ => lt (lots_) (fun xs => loopW (fun x12 (s11 : Unit) kn13 kb14 => lt ((1 : Int)) (fun t32 => law_draw.wp ((3 : Int)) (fun t33 => lt ((t32 + t33)) (fun t30 => lt ((0 : Int)) (fun t31 => lt (t30, t31, ()) (fun p16 => lt (x12) (fun xs => loopW (fun x18 (s17 : Int) kn19 kb20 => lt ((s17 + (if (decide (x18.1 = ("station" : Str))) then p16.1 else (1 : Int)))) (fun due_ => kn19 due_)) xs p16.2.1 (fun s21 => cost.wp (x12) (p16.1) (fun t26 => lt (p16.1) (fun t28 => lt (x12) (fun t29 => cost.wp t29 t28 (fun t27 => lt [t26, t27] (fun t25 => reprW ((eLst eI) t25) (fun t22 => lt ([s21, s21] : (List Int)) (fun t24 => reprW ((eLst eI) t24) (fun t23 => lt ((!decide (t22 = t23))) (fun b => ifW b (lt (false) Q) (kn13 ())))))))))))))))))) xs () (fun s15 => kn3 ()))))))))))))))))))))))))) xs () (fun s5 => lt (true) Q)))
theorem ok_law (hnd : base.NoDigits) (hlaw : law.wp fun b => b = true) : FnG P w K mg base CX0 5 T.f_law T.fd_law ["script"] (sp_law K) := by
  refine fun_okG0 T.F_law sc_law (fun vs H Q E h => ?_) (fun cdv A outer s H vs Q E hgd hr h => ⟨_, (pss_cons (ps_set (i := 1) sc_law.nd rfl (Or.inl rfl) (pe_call (ok__law_mill T) (hr.mono (by decide)) rfl T.g__law_mill T.F__law_mill.kp T.b__law_mill .nil pass0 (pa_cons (pv 0) pa_nil))) (pss_cons (ps_for PassesOwn.never rfl (pi_range1 rfl T.n_range (pa_cons pe_int pa_nil)) (pg_name (i := 2) sc_law.nd rfl (Or.inl rfl)) (pss_cons (ps_set (i := 3) sc_law.nd rfl (Or.inl rfl) (pe_call (ok__law_plan T) (hr.mono (by decide)) rfl T.g__law_plan T.F__law_plan.kp T.b__law_plan .nil pass0 (pa_cons (pv 1) (pa_cons (pe_op op_add pe_int (pe_call (ok__law_draw T) (hr.mono (by decide)) rfl T.g__law_draw T.F__law_draw.kp T.b__law_draw .nil pass0 (pa_cons (pv 1) (pa_cons pe_int pa_nil)))) (pa_cons (pe_op op_add pe_int (pe_call (ok__law_draw T) (hr.mono (by decide)) rfl T.g__law_draw T.F__law_draw.kp T.b__law_draw .nil pass0 (pa_cons (pv 1) (pa_cons pe_int pa_nil)))) (pa_cons (pe_op op_add pe_int (pe_call (ok__law_draw T) (hr.mono (by decide)) rfl T.g__law_draw T.F__law_draw.kp T.b__law_draw .nil pass0 (pa_cons (pv 1) (pa_cons pe_int pa_nil)))) pa_nil)))))) (pss_cons (ps_set (i := 4) sc_law.nd rfl (Or.inr rfl) (pe_call (ok__law_all_gaps T) (hr.mono (by decide)) rfl T.g__law_all_gaps T.F__law_all_gaps.kp T.b__law_all_gaps .nil pass0 (pa_cons (pe_call (ok__law_threads T) (hr.mono (by decide)) rfl T.g__law_threads T.F__law_threads.kp T.b__law_threads .nil pass0 (pa_cons (pv 3) pa_nil)) pa_nil))) (pss_cons (ps_set (i := 5) sc_law.nd rfl (Or.inl rfl) (pe_lst (pa_cons (pe_tup pa_nil) (pa_cons (pv 4) (pa_cons (pe_call (ok__law_some T) (hr.mono (by decide)) rfl T.g__law_some T.F__law_some.kp T.b__law_some .nil pass0 (pa_cons (pv 1) (pa_cons (pv 4) (pa_cons pe_int pa_nil)))) (pa_cons (pe_call (ok__law_some T) (hr.mono (by decide)) rfl T.g__law_some T.F__law_some.kp T.b__law_some .nil pass0 (pa_cons (pv 1) (pa_cons (pv 4) (pa_cons pe_int pa_nil)))) pa_nil)))))) (pss_cons (ps_set (i := 5) sc_law.nd rfl (Or.inl rfl) (pe_op (op_catLL : OpR _ _ (rCatL K)) (pv 5) (pe_lc (own := [("kind", 9)]) rfl sc_law.nd (pi_tup (pe_tup (pa_cons pe_str (pa_cons pe_str pa_nil)))) (blkOk_by (N := N_law) (sc := defScope s_law) (by decide +kernel)) (fun _ _ _ _ _ => pg_name (i := 9) sc_law.nd rfl (Or.inr rfl)) (fun _ _ _ _ _ => pts_nil) (fun _ _ _ _ _ => (pe_callTy (call_tuple_of : CallR _ (.type "tuple") (rTupOf K)) rfl T.n_tuple (by decide +kernel) (pa_cons (pe_lc (own := [("cut", 12)]) rfl sc_law.nd (pi_tup (pv 4) : PI _ _ _ (iTup K _)) (blkOk_by (by rfl)) (fun _ _ _ _ _ => pg_name (i := 12) sc_law.nd rfl (Or.inl rfl)) (fun _ _ _ _ _ => pts_one (pt_cmpR op_eq (pe_ix (ix_tup : IxR _ (rIxT K)) (pv 12) pe_int (fun _ _ => rfl)) (pv 9) (nomark _))) (fun _ _ _ _ _ => (pv 12))) pa_nil)))))) (pss_cons (ps_for PassesOwn.never rfl (pi_list (pv 5)) (pg_name (i := 6) sc_law.nd rfl (Or.inl rfl)) (pss_cons (ps_par (i := 7) (j := 8) rfl sc_law.nd rfl rfl (by decide) rfl rfl (pa_cons (pe_op op_add pe_int (pe_call (ok__law_draw T) (hr.mono (by decide)) rfl T.g__law_draw T.F__law_draw.kp T.b__law_draw .nil pass0 (pa_cons (pv 1) (pa_cons pe_int pa_nil)))) (pa_cons pe_int pa_nil)) rfl) (pss_cons (ps_for PassesOwn.never rfl (pi_tup (pv 6)) (pg_tup rfl (pgs_cons (pg_name (i := 9) sc_law.nd rfl (Or.inl rfl)) (pgs_cons (pg_name (i := 10) sc_law.nd rfl (Or.inl rfl)) (pgs_cons (pg_name (i := 11) sc_law.nd rfl (Or.inl rfl)) pgs_nil)))) (pss_cons (ps_set (i := 8) sc_law.nd rfl (Or.inl rfl) (pe_op op_add (pv 8) (pe_ifExp (pt_cmpR op_eq (pv 9) pe_str (nomark _)) (pv 7) pe_int))) pss_nil)) (pss_cons (ps_if (pt_cmpR op_ne (pe_callB (call_reprQ hgd hr.units : CallR _ _ (rRepr K)) rfl T.n_repr (by decide +kernel) (pa_cons (pe_lst (pa_cons (pe_call (ok_cost T) (hr.mono (by decide)) rfl T.g_cost T.F_cost.kp T.b_cost .nil pass0 (pa_cons (pv 6) (pa_cons (pv 7) pa_nil))) (pa_cons (pe_kw (ok_cost T) (hr.mono (by decide)) rfl T.g_cost T.F_cost.kp T.kw_cost_0 passAt0 (pk_cons (pv 7) (pk_cons (pv 6) pk_nil))) pa_nil))) pa_nil)) (pe_callB (call_reprQ hgd hr.units : CallR _ _ (rRepr K)) rfl T.n_repr (by decide +kernel) (pa_cons (pe_lst (pa_cons (pv 8) (pa_cons (pv 8) pa_nil))) pa_nil)) (nomark _)) (pss_cons (ps_ret pe_bl) pss_nil) pss_nil) pss_nil)))) pss_nil)))))) (pss_cons (ps_ret pe_bl) pss_nil))), ?_⟩)
  · obtain ⟨s, ns, rfl, _⟩ := h
    rfl
  obtain ⟨sa, ns, rfl, hS, hn, k⟩ := h
  refine ⟨.ref sa, rfl, sa, ns, rfl, hS, hn, fun H1 wc sH hf hi => ?_⟩
  have o1 : Ok (WmP wc) (woutF (WmP wc) H1) H1 := ok_woutF hi
  have e1 : Env K (WmP wc) (woutF (WmP wc) H1) H1 (woutF (WmP wc) H1) H1 ((start N_law [.ref sa]).set 1 (some (WmP wc).root)) ((List.replicate 13 .any).set 1 .rt) := env_rt o1 rfl rfl
  show tSeq _ _ _ ((start N_law [.ref sa]).set 1 (some (WmP wc).root)) H1
  refine StG.run (K := K) (EX := fun _ => False) (xr := False) (Pt := fun d => ∃ b, d = eB b ∧ b = true) ?_ e1 (fun v D' H' d _ q ⟨b, e, hb⟩ => by
    subst hb
    subst e
    cases q
    exact k H') (fun _ _ _ z => z)
  show StG K (WmP wc) _ _ [.any, .rt, .any, .any, .any, .any, .any, .any, .any, .any, .any, .any, .any] _
  have h := hlaw
  unfold law.wp at h
  refine st_forW (fun s1 : Unit => [.any, .rt, .any, .any, .any, .any, .any, .any, .any, .any, .any, .any, .any]) (i_rng1W (EvN.w (e := eI) (a := (4 : Int)) ev_int)) h (Le.any (Le.eq (Le.any (Le.any (Le.any (Le.any (Le.any (Le.any (Le.any (Le.any (Le.any (Le.any (Le.any Le.nil))))))))))))) (fun s1 x2 => (eg_name (i := 2) (show 2 < 13 by decide))) (fun x2 s1 kn3 kb4 h => ?_) (fun s5 h => ?_)
  · skip
    refine st_setW (e := e_plan) (show 3 < 13 by decide) (evw_callW (n := 3) (ea := law_plan.ea) (er := e_plan) (w := law_plan.wf) rfl (eaw_cons (w_opI (ec := eI) (f := fun a b => a + b) (fun _ _ _ => .int _) (EvN.w (e := eI) (a := (8 : Int)) ev_int) (evw_callWD (n := 1) (a := (19 : Int)) rfl (ea_consD ev_int ea_nil) (fun _ => rfl))) (eaw_cons (w_opI (ec := eI) (f := fun a b => a + b) (fun _ _ _ => .int _) (EvN.w (e := eI) (a := (2 : Int)) ev_int) (evw_callWD (n := 1) (a := (6 : Int)) rfl (ea_consD ev_int ea_nil) (fun _ => rfl))) (eaw_one (w_opI (ec := eI) (f := fun a b => a + b) (fun _ _ _ => .int _) (EvN.w (e := eI) (a := (2 : Int)) ev_int) (evw_callWD (n := 1) (a := (4 : Int)) rfl (ea_consD ev_int ea_nil) (fun _ => rfl)))))) (fun _ => rfl)) h fun plan_ h => ?_
    refine st_setW (e := (eTup e_cut)) (show 4 < 13 by decide) (evw_call (n := 1) (ea := law_all_gaps.ea) (er := (eTup e_cut)) (w := law_all_gaps.wf) (eaw_one (evw_callD (n := 1) (ea := law_threads.ea) (er := e_told) (w := law_threads.wf) (a := plan_) (ea_consD (ev_var (i := 3) rfl) ea_nil) (fun _ => rfl))) (fun _ => rfl)) h fun gaps_ h => ?_
    refine st_setW (e := (eLst (eTup e_cut))) (show 5 < 13 by decide) (EvFW.w (evfw_lst (eb := (eTup e_cut)) (f := fun a => [a.1, a.2.1, a.2.2.1, a.2.2.2]) (eaw_cons (EvN.w (e := (eTup e_cut)) (a := ([] : (List T_cut))) (ev_tupD ea_nil (by show 0 ≤ _; rw [sizeLine_eq]; decide))) (eaw_cons (EvN.w (e := (eTup e_cut)) (a := gaps_) (ev_var (i := 4) rfl)) (eaw_cons (evw_callWD (n := 2) (ea := law_some.ea) (er := (eTup e_cut)) (w := law_some.wf) (a := (gaps_, (2 : Int))) rfl (ea_consD (ev_var (i := 4) rfl) (ea_consD ev_int ea_nil)) (fun _ => rfl)) (eaw_one (evw_callWD (n := 2) (ea := law_some.ea) (er := (eTup e_cut)) (w := law_some.wf) (a := (gaps_, (4 : Int))) rfl (ea_consD (ev_var (i := 4) rfl) (ea_consD ev_int ea_nil)) (fun _ => rfl)))))) (fun _ => rfl) (fun _ => (by show 4 ≤ _; rw [sizeLine_eq]; decide)))) h fun lots_ h => ?_
    refine st_setW (e := (eLst (eTup e_cut))) (show 5 < 13 by decide) (EvFW.w (w_catL (EvW.l (e := (eTup e_cut)) (EvN.w (e := (eLst (eTup e_cut))) (a := lots_) (ev_var (i := 5) rfl))) (EvFW.l (evfw_fm (vs := [9]) (eb := (eTup e_cut)) (f := (fun x6 k9 => lt (gaps_) (fun t10 => fmW t10 (fun x7 k8 => ifW ((decide (x7.1 = x6))) (lt (x7) (fun y => k8 (some y))) (k8 none)) (fun y => k9 (some y))))) (hv_of (n := 13) rfl (by decide)) (i_tupW (e := eS) (EvN.w (e := (eTup eS)) (a := ([("station" : Str), ("train" : Str)] : (List Str))) (ev_tupD (ea_consD ev_str (ea_consD ev_str ea_nil)) (by show 2 ≤ _; rw [sizeLine_eq]; decide)))) (by decide) (fun x6 => (eg_name (i := 9) (show 9 < 13 by decide))) (fun x6 k9 h => ⟨_, pt_yes, fun _ => (w_tupL (e := e_cut) (EvFW.l (evfw_fm (vs := [12]) (eb := e_cut) (f := (fun x7 k8 => ifW ((decide (x7.1 = x6))) (lt (x7) (fun y => k8 (some y))) (k8 none))) (hv_of (n := 13) rfl (by decide)) (i_tupW (e := e_cut) (EvN.w (e := (eTup e_cut)) (a := gaps_) (ev_var (i := 4) rfl))) (by decide) (fun x7 => (eg_name (i := 12) (by exact (show 12 < 13 by decide)))) (fun x7 k8 h => ⟨_, (et_testD (d_eqS (d_ixT (ds := [eS (x7.1), eK (x7.2.1), eI (x7.2.2)]) (ev_var (i := 12) rfl) ev_int rfl) (ev_var (i := 9) rfl))), fun z => (EvN.w (e := e_cut) (a := x7) (ev_var (i := 12) rfl)) _ (ifW_yes h z), fun z => ifW_no h z⟩)))) _ h, fun z => nomatch z⟩))))) h fun lots_ h => ?_
    refine st_forW (fun s11 : Unit => [.any, .rt, .dat (eI (x2)), .dat (e_plan (plan_)), .dat ((eTup e_cut) (gaps_)), .dat ((eLst (eTup e_cut)) (lots_)), .any, .any, .any, .any, .any, .any, .any]) (i_listW (e := (eTup e_cut)) (EvN.w (e := (eLst (eTup e_cut))) (a := lots_) (ev_var (i := 5) rfl))) h (Le.any (Le.eq (Le.eq (Le.eq (Le.eq (Le.eq (Le.any (Le.any (Le.any (Le.any (Le.any (Le.any (Le.any Le.nil))))))))))))) (fun s11 x12 => (eg_name (i := 6) (show 6 < 13 by decide))) (fun x12 s11 kn13 kb14 h => ?_) (fun s15 h => ?_)
    · skip
      refine st_par2M (k1 := (fun p16 => .dat (eI (p16.1)))) (k2 := (fun p16 => .dat (eI (p16.2.1)))) (show 7 < 13 by decide) (show 8 < 13 by decide) (em_dat (e := eI) (w_opI (ec := eI) (f := fun a b => a + b) (fun _ _ _ => .int _) (EvN.w (e := eI) (a := (1 : Int)) ev_int) (evw_callWD (n := 1) (a := (3 : Int)) rfl (ea_consD ev_int ea_nil) (fun _ => rfl))) (em_dat (e := eI) (EvN.w (e := eI) (a := (0 : Int)) ev_int) em_nil)) h (fun _ => rfl) fun p16 h => ?_
      refine st_forW (fun s17 : Int => [.any, .rt, .dat (eI (x2)), .dat (e_plan (plan_)), .dat ((eTup e_cut) (gaps_)), .dat ((eLst (eTup e_cut)) (lots_)), .dat ((eTup e_cut) (x12)), .dat (eI (p16.1)), .dat (eI (s17)), .any, .any, .any, .any]) (i_tupW (e := e_cut) (EvN.w (e := (eTup e_cut)) (a := x12) (ev_var (i := 6) rfl))) h (Le.any (Le.eq (Le.eq (Le.eq (Le.eq (Le.eq (Le.eq (Le.eq (Le.eq (Le.any (Le.any (Le.any (Le.any Le.nil))))))))))))) (fun s17 x18 => (eg_tup (ds := [eS (x18.1), eK (x18.2.1), eI (x18.2.2)]) (egs_cons (eg_name (i := 9) (show 9 < 13 by decide)) (egs_cons (eg_name (i := 10) (show 10 < 13 by decide)) (egs_cons (eg_name (i := 11) (show 11 < 13 by decide)) egs_nil))) rfl)) (fun x18 s17 kn19 kb20 h => ?_) (fun s21 h => ?_)
      · skip
        refine st_setW (e := eI) (show 8 < 13 by decide) (EvN.w (e := eI) (a := (s17 + (if (decide (x18.1 = ("station" : Str))) then p16.1 else (1 : Int)))) (d_add (ev_var (i := 8) rfl) (evd_if (e := eI) (et_testD (d_eqS (ev_var (i := 9) rfl) ev_str)) (ev_var (i := 7) rfl) ev_int))) h fun due_ h => ?_
        exact st_next ⟨due_, (Le.any (Le.eq (Le.eq (Le.eq (Le.eq (Le.eq (Le.eq (Le.eq (Le.eq (Le.any (Le.any (Le.any (Le.any Le.nil))))))))))))), h⟩
      · skip
        refine st_ifW (etw_test (w_neS (w_repr (EvW.h (e := (eLst eI)) (EvFW.w (evfw_lst (eb := eI) (f := fun a => [a.1, a.2]) (eaw_cons (evw_callD (n := 2) (ea := cost.ea) (er := eI) (w := cost.wf) (a := (x12, p16.1)) (ea_consD (ev_var (i := 6) rfl) (ea_consD (ev_var (i := 7) rfl) ea_nil)) (fun _ => rfl)) (eaw_one (evw_callKw2 (n := 2) (m := 2) (ea := cost.ea) (er := eI) (w := cost.wf) (perm := [1, 0]) (fun a => (a.2, a.1)) (eaw_cons (EvN.w (e := eI) (a := p16.1) (ev_var (i := 7) rfl)) (eaw_one (EvN.w (e := (eTup e_cut)) (a := x12) (ev_var (i := 6) rfl)))) (fun vs a hq => by obtain ⟨v0, v1, rfl, h0, h1⟩ := dqa2 hq; exact .cons h1 (.cons h0 .nil)) (fun _ => rfl) (fun _ => rfl)))) (fun _ => rfl) (fun _ => (by show 2 ≤ _; rw [sizeLine_eq]; decide)))))) (w_repr (EvW.h (e := (eLst eI)) (EvFW.w (EvF.w (e := eI) (xs := ([s21, s21] : (List Int))) (evf_lst (ea_consD (ev_var (i := 8) rfl) (ea_consD (ev_var (i := 8) rfl) ea_nil)) (by rintro _ rfl; exact (by show 2 ≤ _; rw [sizeLine_eq]; decide))))))))) h (fun h => ?_) (fun h => ?_)
        · skip
          refine st_flat ?_
          exact st_retW (e := eB) (EvN.w (e := eB) (a := false) ev_bl) h fun a q => ⟨a, rfl, q⟩
        · skip
          refine st_nextSeq ?_
          exact st_next ⟨(), (Le.any (Le.eq (Le.eq (Le.eq (Le.eq (Le.eq (Le.any (Le.any (Le.any (Le.any (Le.any (Le.any (Le.any Le.nil))))))))))))), h⟩
    · skip
      exact st_next ⟨(), (Le.any (Le.eq (Le.any (Le.any (Le.any (Le.any (Le.any (Le.any (Le.any (Le.any (Le.any (Le.any (Le.any Le.nil))))))))))))), h⟩
  · skip
    exact st_retW (e := eB) (EvN.w (e := eB) (a := true) ev_bl) h fun a q => ⟨a, rfl, q⟩

end
end K27

namespace K27
open PySem PySem.Spec PyProof.Rows L2 Dl
section
variable {P : Program} {w : World} {K : PySem.W.Frag} {mg : Str → Option Value} {base : Heap} (T : Txt K mg)
/-! ### the mathematics: plans -/
def COk (c : T_call) : Prop := PyData.strOk c.1 = true
def COks (cs : List T_call) : Prop := ∀ c ∈ cs, COk c
theorem can_calls {cs : List T_call} (h : COks cs) : ((eLst e_call) cs).canLay0 = true := (CanE.lst (CanE.t2 CanE.str CanE.int)).can cs fun c hc => ⟨h c hc, trivial⟩
def TOk (t : T_train) : Prop := COks t.2.2 ∧ t.2.2.length ≤ 4
theorem can_trains {ts : List T_train} (h : ∀ t ∈ ts, TOk t) : ((eLst e_train) ts).canLay0 = true := (CanE.lst (CanE.t3 CanE.int (CanE.tup CanE.int) (CanE.tup (CanE.t2 CanE.str CanE.int)))).can ts fun t ht => ⟨trivial, fun _ _ => trivial, fun c hc => ⟨(h t ht).1 c hc, trivial⟩⟩
def NOk (ns : List Str) : Prop := ns ≠ [] ∧ ns.length ≤ 100 ∧ ∀ z ∈ ns, PyData.strOk z = true
theorem NOk.pick {ns : List Str} (h : NOk ns) {Q : Str → Prop} (q : ∀ z, PyData.strOk z = true → Q z) : law_pick.wp ns Q := ⟨h.1, by have := h.2.1; omega, fun z hz => q z (h.2.2 z hz)⟩
theorem law_calls_spec {ns : List Str} (hn : NOk ns) {many : Int} (hm : many ≤ 4) (hm2 : -100 ≤ many) (b : Int) {Q : List T_call → Prop} (q : ∀ cs, COks cs → cs.length ≤ 4 → Q cs) : law_calls.wp ns many b Q := by
  unfold law_calls.wp
  dsimp only [lt, joinW]
  refine rngW_of (lo := 0) (by omega) (by omega) (by omega) (by omega) ?_
  have hlen := rngG_len 0 (many - 0).toNat
  generalize rngG 0 (many - 0).toNat = xs at hlen ⊢
  refine loopW_pre (fun ys s => s.1.length = ys.length ∧ COks s.1) ⟨rfl, fun c hc => by cases hc⟩ (fun ys x zs s e iv kn kb hkn _ => ?_) (fun s iv => q _ iv.2 (by rw [iv.1]; omega))
  have he := congrArg List.length e
  rw [List.length_append, List.length_cons] at he
  have fin : ∀ z, PyData.strOk z = true → appW s.1 (z, s.2) fun found_ => law_draw.wp 8 fun t11 => kn (found_, s.2 + 1 + t11) := fun z hz =>
    ⟨lt_sz (by rw [iv.1]; omega), by decide, by decide, fun r _ _ => hkn _ ⟨by
      show (s.1 ++ [_]).length = _
      rw [List.length_append, List.length_append, iv.1]
      rfl, fun c hc => by
      rcases List.mem_append.mp hc with hc | hc
      · exact iv.2 c hc
      · rw [List.mem_singleton] at hc
        rw [hc]
        exact hz⟩⟩
  refine hn.pick fun z hz => ⟨⟨can_calls iv.2, rfl⟩, ?_⟩
  dsimp only [andW]
  split
  · rename_i hne
    have hne2 : s.1 ≠ [] := by simpa using hne
    have hp : 0 < s.1.length := by
      cases h : s.1 with
      | nil => exact (hne2 h).elim
      | cons _ _ => simp
    obtain ⟨u, hu⟩ : ∃ u, atI s.1 (-1) = some u := by
      refine ⟨s.1[s.1.length - 1]'(by omega), ?_⟩
      unfold atI
      have : ixN s.1.length (-1) = some (s.1.length - 1) := by
        unfold ixN
        simp
        omega
      rw [this]
      exact List.getElem?_eq_getElem (by omega)
    refine ⟨u, hu, ?_⟩
    dsimp only [ifW]
    split
    · exact hn.pick fun z2 hz2 => fin z2 hz2
    · exact fin z hz
  · exact fin z hz
theorem law_turned_spec {cs : List T_call} (hc : COks cs) (hl : cs.length ≤ 4) (many : Int) {Q : List T_call → Prop} (q : ∀ cs, COks cs → cs.length ≤ 4 → Q cs) : law_turned.wp cs many Q := by
  unfold law_turned.wp
  dsimp only [lt]
  refine fmW_map (fun x : T_call => x.1) (by omega) (fun x _ k h => h) ⟨by decide, by decide, fun r _ _ => ?_⟩
  have main : ∀ ns : List Str, (∀ z ∈ ns, PyData.strOk z = true) → ns.length ≤ 4 → law_draw.wp 12 fun t17 => loopW (fun x5 (s4 : (List T_call) × Int) kn6 kb7 => appW s4.1 (x5, s4.2) fun found_ => law_draw.wp 8 fun t11 => kn6 (found_, s4.2 + 1 + t11)) (cutG ns none (some many)) (([] : List T_call), t17) fun s8 => Q s8.1 := fun ns h1 h2 => by
    refine ⟨by decide, by decide, fun r _ _ => ?_⟩
    have hcut := cutG_le ns none (some many)
    refine loopW_pre (fun ys s => s.1.length = ys.length ∧ COks s.1) ⟨rfl, fun c hc => by cases hc⟩ (fun ys x zs s e iv kn kb hkn _ => ?_) (fun s iv => q _ iv.2 (by rw [iv.1]; omega))
    have he := congrArg List.length e
    rw [List.length_append, List.length_cons] at he
    have hx : x ∈ ns := List.mem_of_mem_drop (List.mem_of_mem_take (by rw [show (cutG ns none (some many)) = _ from e]; simp : x ∈ cutG ns none (some many)))
    exact ⟨lt_sz (by rw [iv.1]; omega), by decide, by decide, fun r _ _ => hkn _ ⟨by
      show (s.1 ++ [_]).length = _
      rw [List.length_append, List.length_append, iv.1]
      rfl, fun c hc => by
      rcases List.mem_append.mp hc with hc | hc
      · exact iv.2 c hc
      · rw [List.mem_singleton] at hc
        rw [hc]
        exact h1 x hx⟩⟩
  have hn : ∀ z ∈ cs.map (fun x : T_call => x.1), PyData.strOk z = true := fun z hz => by
    obtain ⟨c, h, rfl⟩ := List.mem_map.mp hz
    exact hc c h
  dsimp only [iteW]
  split
  · exact main _ (fun z hz => hn z (List.mem_reverse.mp hz)) (by rw [List.length_reverse, List.length_map]; exact hl)
  · exact main _ hn (by rw [List.length_map]; exact hl)

end
end K27

namespace K27
open PySem PySem.Spec PyProof.Rows L2 Dl
section
variable {P : Program} {w : World} {K : PySem.W.Frag} {mg : Str → Option Value} {base : Heap} (T : Txt K mg)
theorem iteW_any {α : Type} {b : Bool} {w v : (α → Prop) → Prop} {k : α → Prop} (R : α → Prop) (hk : ∀ a, R a → k a) (h1 : b = true → ∀ k', (∀ a, R a → k' a) → w k') (h2 : b = false → ∀ k', (∀ a, R a → k' a) → v k') : iteW b w v k := by
  unfold iteW
  cases b with
  | true => exact h1 rfl k hk
  | false => exact h2 rfl k hk
structure POk (p : T_plan) : Prop where
  n : p.2.length ≤ 7
  t : ∀ t ∈ p.2, TOk t
theorem nok5 : ∀ r ∈ List.range 4, (cutG ([("ab" : Str), ("cd" : Str), ("ef" : Str), ("gh" : Str), ("x" : Str)] : List Str) none (some (2 + (r : Int)))) ≠ [] := by decide +kernel
theorem sok5 : ∀ z ∈ ([("ab" : Str), ("cd" : Str), ("ef" : Str), ("gh" : Str), ("x" : Str)] : List Str), PyData.strOk z = true := by decide +kernel
theorem law_plan_spec {most trains stations : Int} (h1 : most ≤ 26) (h1' : 0 ≤ most) (h2 : trains ≤ 7) (h2' : 0 ≤ trains) (h3 : 2 ≤ stations) (h4 : stations < 6) {Q : T_plan → Prop} (q : ∀ p, POk p → Q p) : law_plan.wp most trains stations Q := by
  unfold law_plan.wp
  dsimp only [lt, joinW]
  have hn : NOk (cutG ([("ab" : Str), ("cd" : Str), ("ef" : Str), ("gh" : Str), ("x" : Str)] : List Str) none (some stations)) := by
    refine ⟨?_, Nat.le_trans (cutG_le _ _ _) (by decide), fun z hz => sok5 z (List.mem_of_mem_drop (List.mem_of_mem_take hz))⟩
    have := nok5 (stations - 2).toNat (List.mem_range.mpr (by omega))
    have e : (2 : Int) + ((stations - 2).toNat : Nat) = stations := by omega
    rw [e] at this
    exact this
  generalize cutG ([("ab" : Str), ("cd" : Str), ("ef" : Str), ("gh" : Str), ("x" : Str)] : List Str) none (some stations) = ns at hn ⊢
  refine rngW_of (lo := 0) (by omega) (by omega) (by omega) (by omega) ?_
  have hlen := rngG_len 0 (trains - 0).toNat
  generalize rngG 0 (trains - 0).toNat = xs at hlen ⊢
  have fin : ∀ s : Int × Int × List T_train, s.2.2.length ≤ 7 → (∀ t ∈ s.2.2, TOk t) → law_draw.wp 7 fun t34 => Q ((t34, 7, []), s.2.2) := fun s a b => ⟨by decide, by decide, fun r _ _ => q _ ⟨a, b⟩⟩
  refine loopW_pre (fun ys s => s.2.2.length ≤ ys.length ∧ (∀ t ∈ s.2.2, TOk t) ∧ s.2.1 ≤ 26 ∧ -4 * (ys.length : Int) ≤ s.2.1) ⟨Nat.zero_le _, (fun t ht => by cases ht), h1, by simpa using h1'⟩ (fun ys x zs s e iv kn kb hkn hkb => ?_) (fun s iv => fin s (by omega) iv.2.1)
  have he := congrArg List.length e
  rw [List.length_append, List.length_cons] at he
  obtain ⟨i1, i2, i3, i4⟩ := iv
  refine iteW_any (fun m => 1 ≤ m ∧ m ≤ 4) (fun m hm => ?_) (fun _ k' hk' => ⟨by decide, by decide, fun r a b => hk' _ (by omega)⟩) (fun _ k' hk' => ⟨by decide, by decide, fun r a b => hk' _ (by omega)⟩)
  have hmany : (if s.2.1 < m then s.2.1 else m) ≤ 4 ∧ -100 ≤ (if s.2.1 < m then s.2.1 else m) := by
    split <;> omega
  generalize (if s.2.1 < m then s.2.1 else m) = many at hmany ⊢
  dsimp only [ifW]
  split
  · exact hkb _ (fin _ (by show s.2.2.length ≤ 7; omega) i2)
  · refine ⟨by decide, by decide, fun r1 _ _ => ⟨by decide, by decide, fun r2 _ _ => law_calls_spec hn hmany.1 hmany.2 r2 fun cs hcs hcl => ?_⟩⟩
    have fin8 : ∀ cs : List T_call, COks cs → cs.length ≤ 4 → law_draw.wp 7 fun t16 => appW s.2.2 (s.1 + 1 + r1, [t16], cs) fun found_ => kn (s.1 + 1 + r1, s.2.1 - (cs.length : Int), found_) := fun cs hcs hcl =>
      ⟨by decide, by decide, fun r3 _ _ => ⟨lt_sz (by omega), hkn _ ⟨by
        show (s.2.2 ++ [_]).length ≤ _
        rw [List.length_append, List.length_append, List.length_singleton, List.length_singleton]
        omega, fun t ht => by
        rcases List.mem_append.mp ht with ht | ht
        · exact i2 t ht
        · rw [List.mem_singleton] at ht
          subst ht
          exact ⟨hcs, hcl⟩, by show s.2.1 - (cs.length : Int) ≤ 26; omega, by
        show -4 * ((ys ++ [x]).length : Int) ≤ s.2.1 - (cs.length : Int)
        rw [List.length_append, List.length_singleton]
        omega⟩⟩⟩
    refine ⟨⟨can_trains i2, rfl⟩, ?_⟩
    dsimp only [andW]
    split
    · rename_i hne
      have hne2 : s.2.2 ≠ [] := by simpa using hne
      refine ⟨by decide, by decide, fun r4 _ _ => ?_⟩
      dsimp only [ifW]
      split
      · exact ⟨hne2, by omega, fun t ht => law_turned_spec (i2 t ht).1 (i2 t ht).2 many fun cs h1 h2 => fin8 cs h1 h2⟩
      · exact fin8 cs hcs hcl
    · exact fin8 cs hcs hcl

end
end K27

namespace K27
open PySem PySem.Spec PyProof.Rows L2 Dl
section
variable {P : Program} {w : World} {K : PySem.W.Frag} {mg : Str → Option Value} {base : Heap} (T : Txt K mg)
def KOk (k : Str × Key) : Prop := (k.1 = "train" ∧ ∃ i, k.2 = Sum.inl i) ∨ (k.1 = "station" ∧ ∃ z, k.2 = Sum.inr z)
def DB (B : Nat) (d : T_threads) : Prop := ∀ p ∈ d, KOk p.1 ∧ p.2.length ≤ B
theorem mem_dput {κ β : Type} [DecidableEq κ] {d : List (κ × β)} {k : κ} {b : β} {p : κ × β} (h : p ∈ dput d k b) : p ∈ d ∨ p = (k, b) := by
  unfold dput at h
  split at h
  · obtain ⟨r, hr, e⟩ := List.mem_map.mp h
    split at e
    · rename_i hk
      rw [← e, hk]
      exact Or.inr rfl
    · rw [← e]
      exact Or.inl hr
  · rcases List.mem_append.mp h with h | h
    · exact Or.inl h
    · exact Or.inr (List.mem_singleton.mp h)
theorem DB.put {B C : Nat} {d : T_threads} (h : DB B d) (hBC : B ≤ C) {k : Str × Key} (hk : KOk k) {b : List T_mark} (hb : b.length ≤ C) : DB C (dput d k b) := fun p hp => by
  rcases mem_dput hp with hp | rfl
  · exact ⟨(h p hp).1, Nat.le_trans (h p hp).2 hBC⟩
  · exact ⟨hk, hb⟩
def TdOk (t : T_told) : Prop := DB 40 t.1 ∧ t.1.length ≤ 40
theorem law_threads_spec {p : T_plan} (h : POk p) {Q : T_told → Prop} (q : ∀ t, TdOk t → Q t) : law_threads.wp p Q := by
  unfold law_threads.wp
  dsimp only [lt, gd]
  have hn := h.n
  refine loopW_pre (xs := p.2) (fun ys s => s.1.length ≤ 4 * ys.length ∧ s.2.2.length ≤ 4 * ys.length ∧ DB 4 s.2.1 ∧ s.2.1.length ≤ ys.length) ⟨Nat.zero_le _, Nat.zero_le _, (fun p hp => by cases hp), Nat.zero_le _⟩ (fun ys t zs s e iv kn kb hkn _ => ?_) (fun s iv => ?_)
  · have ht : t ∈ p.2 := by rw [e]; simp
    have h4 := (h.t t ht).2
    have he := congrArg List.length e
    rw [List.length_append, List.length_cons] at he
    obtain ⟨i1, i2, i3, i4⟩ := iv
    refine rngW_of (lo := 0) (by omega) (by omega) (by omega) (by omega) ?_
    refine fmW_map (fun i : Int => (t.1, i)) (by rw [rngG_len]; omega) (fun x _ k hk => hk) ?_
    refine ⟨lt_sz (by omega), ?_⟩
    have i3' : DB 4 (dput s.2.1 (("train" : Str), (Sum.inl t.1 : Key)) ((rngG 0 ((t.2.2.length : Int) - 0).toNat).map fun i : Int => (t.1, i))) := i3.put (Nat.le_refl 4) (Or.inl ⟨rfl, _, rfl⟩) (by rw [List.length_map, rngG_len]; omega)
    have i4' : (dput s.2.1 (("train" : Str), (Sum.inl t.1 : Key)) ((rngG 0 ((t.2.2.length : Int) - 0).toNat).map fun i : Int => (t.1, i))).length ≤ s.2.1.length + 1 := dput_len
    generalize dput s.2.1 (("train" : Str), (Sum.inl t.1 : Key)) ((rngG 0 ((t.2.2.length : Int) - 0).toNat).map fun i : Int => (t.1, i)) = f at i3' i4' ⊢
    refine loopW_pre (xs := enG 0 t.2.2) (fun cs s2 => s2.1.length ≤ s.1.length + cs.length ∧ s2.2.length ≤ s.2.2.length + cs.length) ⟨Nat.le_refl _, Nat.le_refl _⟩ (fun cs c ds s2 e2 jv kn2 kb2 hkn2 _ => ?_) (fun s2 jv => hkn _ ?_)
    · have he2 := congrArg List.length e2
      rw [enG_len, List.length_append, List.length_cons] at he2
      refine ⟨lt_sz (by omega), lt_sz (by omega), hkn2 _ ⟨?_, ?_⟩⟩
      · refine Nat.le_trans dput_len ?_
        rw [List.length_append, List.length_singleton]
        omega
      · show (s2.2 ++ [_]).length ≤ _
        rw [List.length_append, List.length_append, List.length_singleton, List.length_singleton]
        omega
    · have hl := enG_len 0 t.2.2
      rw [List.length_append, List.length_singleton]
      exact ⟨by show s2.1.length ≤ _; omega, by show s2.2.length ≤ _; omega, i3', by show f.length ≤ _; omega⟩
  · obtain ⟨i1, i2, i3, i4⟩ := iv
    have hr : (srtK (fun a : (Str × Int × Int × Int) => [.inr a.1, .inl a.2.1, .inl a.2.2.1, .inl a.2.2.2]) s.2.2).length ≤ 28 := by
      rw [(srtK_perm _ _).length_eq]
      omega
    refine loopW_pre (fun ys d => DB (4 + ys.length) d ∧ d.length ≤ 7 + ys.length) ⟨i3, by simp only [List.length_nil]; omega⟩ (fun ys x zs d e iv kn kb hkn _ => ?_) (fun d iv => q _ ⟨fun p hp => ⟨(iv.1 p hp).1, by have := (iv.1 p hp).2; omega⟩, by show d.length ≤ 40; omega⟩)
    have he := congrArg List.length e
    rw [List.length_append, List.length_cons] at he
    have hg : ((dget d (("station" : Str), (Sum.inr x.1 : Key))).getD ([] : List T_mark)).length ≤ 4 + ys.length := by
      cases hd : dget d (("station" : Str), (Sum.inr x.1 : Key)) with
      | none => exact Nat.zero_le _
      | some b => exact (iv.1 _ (mem_dget hd)).2
    refine ⟨le_sz ?_, lt_sz (by omega), hkn _ ⟨?_, ?_⟩⟩
    · rw [List.length_singleton]
      omega
    · refine iv.1.put (by rw [List.length_append]; omega) (Or.inr ⟨rfl, _, rfl⟩) ?_
      rw [List.length_append, List.length_append, List.length_singleton, List.length_singleton]
      omega
    · refine Nat.le_trans dput_len ?_
      rw [List.length_append, List.length_singleton]
      omega
def CtOk (c : T_cut) : Prop := KOk (c.1, c.2.1)
theorem ct_cmp {a b : T_cut} (ha : CtOk a) (hb : CtOk b) : cmpK [.inr a.1, a.2.1, .inl a.2.2] [.inr b.1, b.2.1, .inl b.2.2] := by
  refine ⟨rfl, fun e => ?_⟩
  have e1 : a.1 = b.1 := Sum.inr.inj e
  have ht : isTx a.2.1 = isTx b.2.1 := by
    rcases ha with ⟨h1, i, h2⟩ | ⟨h1, i, h2⟩ <;> rcases hb with ⟨h3, j, h4⟩ | ⟨h3, j, h4⟩
    · have h2' : a.2.1 = Sum.inl i := h2
      have h4' : b.2.1 = Sum.inl j := h4
      rw [h2', h4']
      rfl
    · have h1' : a.1 = "train" := h1
      have h3' : b.1 = "station" := h3
      rw [h1', h3'] at e1
      exact absurd e1 (by decide)
    · have h1' : a.1 = "station" := h1
      have h3' : b.1 = "train" := h3
      rw [h1', h3'] at e1
      exact absurd e1 (by decide)
    · have h2' : a.2.1 = Sum.inr i := h2
      have h4' : b.2.1 = Sum.inr j := h4
      rw [h2', h4']
      rfl
  exact ⟨ht, fun _ => ⟨rfl, fun _ => trivial⟩⟩
theorem law_all_gaps_spec {t : T_told} (h : TdOk t) {Q : List T_cut → Prop} (q : ∀ g, g.length ≤ 1600 → Q g) : law_all_gaps.wp t Q := by
  unfold law_all_gaps.wp
  dsimp only [lt]
  have hkl : (t.1.map fun p => p.1).length ≤ 40 := by rw [List.length_map]; exact h.2
  refine loopW_pre (fun ys s => s.length ≤ 40 * ys.length ∧ ∀ c ∈ s, CtOk c) ⟨Nat.zero_le _, (fun c hc => by cases hc)⟩ (fun ys x zs s e iv kn kb hkn _ => ?_) (fun s iv => ⟨fun a ha b hb => ct_cmp (iv.2 a ha) (iv.2 b hb), q _ (by rw [(srtK_perm _ _).length_eq]; omega)⟩)
  have hx : x ∈ t.1.map fun p => p.1 := by rw [e]; simp
  have he := congrArg List.length e
  rw [List.length_append, List.length_cons] at he
  obtain ⟨b, hb⟩ := dget_ex hx
  have hm := h.1 _ (mem_dget hb)
  refine ⟨b, hb, ?_⟩
  have hbl : b.length ≤ 40 := hm.2
  refine rngW_of (lo := 1) (by omega) (by omega) (by omega) (by omega) ?_
  have hlen := rngG_len 1 ((b.length : Int) - 1).toNat
  generalize rngG 1 ((b.length : Int) - 1).toNat = xs at hlen ⊢
  refine loopW_pre (fun zs s2 => s2.length ≤ s.length + zs.length ∧ ∀ c ∈ s2, CtOk c) ⟨Nat.le_refl _, iv.2⟩ (fun zs g ws s2 e2 jv kn2 kb2 hkn2 _ => ?_) (fun s2 jv => hkn _ ⟨by rw [List.length_append, List.length_singleton]; omega, jv.2⟩)
  have he2 := congrArg List.length e2
  rw [List.length_append, List.length_cons] at he2
  refine ⟨lt_sz (by omega), hkn2 _ ⟨by
    rw [List.length_append, List.length_append, List.length_singleton, List.length_singleton]
    omega, fun c hc => ?_⟩⟩
  rcases List.mem_append.mp hc with hc | hc
  · exact jv.2 c hc
  · rw [List.mem_singleton] at hc
    rw [hc]
    exact hm.1

end
end K27

namespace K27
open PySem PySem.Spec PyProof.Rows L2 Dl
section
variable {P : Program} {w : World} {K : PySem.W.Frag} {mg : Str → Option Value} {base : Heap} (T : Txt K mg)
theorem law_some_spec {items : List T_cut} (hl : items.length ≤ 1600) {share : Int} (h0 : 0 < share) (h1 : share < 1000000) {Q : List T_cut → Prop} (q : ∀ g, g.length ≤ 1600 → Q g) : law_some.wp items share Q := by
  unfold law_some.wp
  dsimp only [lt]
  refine ⟨le_sz (by omega), fmGo_rel (fun _ _ => True) items (fun x hx k hk => ⟨h0, h1, fun r _ _ => ?_⟩) (fun os ho _ => q _ ?_)⟩
  · dsimp only [ifW]
    split
    · exact hk _ trivial
    · exact hk _ trivial
  · refine Nat.le_trans (List.length_filterMap_le _ _) ?_
    omega
def price1 (price : Int) (c : T_cut) : Int := if decide (c.1 = ("station" : Str)) = true then price else 1
theorem cost_spec {cuts : List T_cut} (hl : cuts.length ≤ 1600) (price : Int) {Q : Int → Prop} (q : Q (cuts.map (price1 price)).sum) : cost.wp cuts price Q :=
  fmW_map (price1 price) (by omega) (fun x _ k hk => hk) q
theorem fold_sum (f : T_cut → Int) : ∀ (cs : List T_cut) (a : Int), cs.foldl (fun s c => s + f c) a = a + (cs.map f).sum
  | [], a => by simp
  | c :: cs, a => by
    rw [List.foldl_cons, fold_sum f cs, List.map_cons, List.sum_cons]
    omega
theorem sum_le (f : T_cut → Int) (hf : ∀ c, 0 ≤ f c ∧ f c ≤ 4) : ∀ (cs : List T_cut), 0 ≤ (cs.map f).sum ∧ (cs.map f).sum ≤ 4 * cs.length
  | [] => ⟨by simp, by simp⟩
  | c :: cs => by
    have := sum_le f hf cs
    have h := hf c
    rw [List.map_cons, List.sum_cons, List.length_cons]
    omega
theorem law_true : law.wp fun b => b = true := by
  unfold law.wp
  dsimp only [lt, gd]
  refine rngW_of (lo := 0) (by omega) (by omega) (by omega) (by omega) ?_
  refine loopW_of (fun _ _ => True) trivial (fun ys x s _ hx kn kb hn _ => ?_) (fun s _ => rfl)
  refine ⟨by decide, by decide, fun r1 a1 b1 => ⟨by decide, by decide, fun r2 a2 b2 => ⟨by decide, by decide, fun r3 a3 b3 => ?_⟩⟩⟩
  refine law_plan_spec (by omega) (by omega) (by omega) (by omega) (by omega) (by omega) fun p hp => ?_
  refine law_threads_spec hp fun t ht => law_all_gaps_spec ht fun g hg => ?_
  refine law_some_spec hg (by decide) (by decide) fun g1 hg1 => law_some_spec hg (by decide) (by decide) fun g2 hg2 => ?_
  refine fmW_map (fun x6 : Str => (g.filter fun x7 => decide (x7.1 = x6)).map fun x7 => x7) (by decide) (fun x6 _ k hk => ?_) ?_
  · refine fmW_filter (fun x7 : T_cut => decide (x7.1 = x6)) (fun x7 => x7) (by omega) (fun x7 _ k hk => ?_) hk
    dsimp only [ifW]
    split
    · rename_i h
      rw [if_pos h] at hk
      exact hk
    · rename_i h
      rw [if_neg h] at hk
      exact hk
  refine ⟨le_sz (by simp), ?_⟩
  refine loopW_of (fun _ _ => True) trivial (fun ys cuts s _ hx kn kb hkn _ => ?_) (fun s _ => hn () trivial)
  have hl : cuts.length ≤ 1600 := by
    have hf : ∀ z : Str, ((g.filter fun x7 => decide (x7.1 = z)).map fun x7 => x7).length ≤ 1600 := fun z => by
      rw [List.length_map]
      exact Nat.le_trans (List.length_filter_le _ _) hg
    simp only [List.cons_append, List.nil_append, List.map_cons, List.map_nil, List.mem_cons, List.not_mem_nil, or_false] at hx
    rcases hx with rfl | rfl | rfl | rfl | rfl | rfl
    · exact Nat.zero_le _
    · exact hg
    · exact hg1
    · exact hg2
    · exact hf _
    · exact hf _
  refine ⟨by decide, by decide, fun r4 a4 b4 => ?_⟩
  refine loopW_fold (fun s c => s + price1 (1 + r4) c) cuts (fun c _ s kn kb hk => hk) ?_
  rw [fold_sum, Int.zero_add]
  refine cost_spec hl _ (cost_spec hl _ ?_)
  have hs := sum_le (price1 (1 + r4)) (fun c => by
    unfold price1
    split <;> omega) cuts
  have hsm : Sm (4 + 2 * (8 + 2)) (1 + 1) ((eLst eI) [(cuts.map (price1 (1 + r4))).sum, (cuts.map (price1 (1 + r4))).sum]) := Sm.lstM (fun m hm => by
    have : m = (cuts.map (price1 (1 + r4))).sum := by simpa using hm
    rw [this]
    exact Sm.int7 (by omega) (by omega)) (by show 2 ≤ 2; decide)
  refine reprW_of hsm (by decide) (by decide) (reprW_of hsm (by decide) (by decide) ?_)
  rw [decide_eq_true rfl]
  exact hkn () trivial

end
end K27

namespace K27
open PySem PySem.Spec PyProof.Rows L2 Dl
theorem all_mk {P : Program} {w : World} {K : PySem.W.Frag} {h : Heap} {mg : Str → Option Value} {fa : Addr} (X : K.In h) (G : h.Ns mainGlobals mg) (hfa : mg "law" = some (.ref fa))
    {oc_cost_of kV_cost_of dc_cost_of pm_cost_of cd_cost_of ct_cost_of : Value} {od_cost_of an_cost_of : Option Addr} {sl_cost_of : Array (Option Value)} {f_cost_of : Addr}
    {oc_cost kV_cost dc_cost pm_cost cd_cost ct_cost : Value} {od_cost an_cost : Option Addr} {sl_cost : Array (Option Value)} {f_cost : Addr}
    {oc__law_mill kV__law_mill dc__law_mill pm__law_mill cd__law_mill ct__law_mill : Value} {od__law_mill an__law_mill : Option Addr} {sl__law_mill : Array (Option Value)} {f__law_mill : Addr}
    {oc__law_draw kV__law_draw dc__law_draw pm__law_draw cd__law_draw ct__law_draw : Value} {od__law_draw an__law_draw : Option Addr} {sl__law_draw : Array (Option Value)} {f__law_draw : Addr}
    {oc__law_pick kV__law_pick dc__law_pick pm__law_pick cd__law_pick ct__law_pick : Value} {od__law_pick an__law_pick : Option Addr} {sl__law_pick : Array (Option Value)} {f__law_pick : Addr}
    {oc__law_calls kV__law_calls dc__law_calls pm__law_calls cd__law_calls ct__law_calls : Value} {od__law_calls an__law_calls : Option Addr} {sl__law_calls : Array (Option Value)} {f__law_calls : Addr}
    {oc__law_plan kV__law_plan dc__law_plan pm__law_plan cd__law_plan ct__law_plan : Value} {od__law_plan an__law_plan : Option Addr} {sl__law_plan : Array (Option Value)} {f__law_plan : Addr}
    {oc__law_turned kV__law_turned dc__law_turned pm__law_turned cd__law_turned ct__law_turned : Value} {od__law_turned an__law_turned : Option Addr} {sl__law_turned : Array (Option Value)} {f__law_turned : Addr}
    {oc__law_threads kV__law_threads dc__law_threads pm__law_threads cd__law_threads ct__law_threads : Value} {od__law_threads an__law_threads : Option Addr} {sl__law_threads : Array (Option Value)} {f__law_threads : Addr}
    {oc__law_all_gaps kV__law_all_gaps dc__law_all_gaps pm__law_all_gaps cd__law_all_gaps ct__law_all_gaps : Value} {od__law_all_gaps an__law_all_gaps : Option Addr} {sl__law_all_gaps : Array (Option Value)} {f__law_all_gaps : Addr}
    {oc__law_some kV__law_some dc__law_some pm__law_some cd__law_some ct__law_some : Value} {od__law_some an__law_some : Option Addr} {sl__law_some : Array (Option Value)} {f__law_some : Addr}
    {oc_law kV_law dc_law pm_law cd_law ct_law : Value} {od_law an_law : Option Addr} {sl_law : Array (Option Value)} {f_law : Addr}
    (a_cost_of : PySem.W.nsIn K mainGlobals "cost_of" = some (some (.ref f_cost_of))) (l_cost_of : K.lookup f_cost_of = some ⟨oc_cost_of, od_cost_of, .func (PySem.W.fnOf "cost_of" "cost_of" (defArgs s_cost_of) (defBody s_cost_of) (defScope s_cost_of) .none kV_cost_of dc_cost_of pm_cost_of an_cost_of cd_cost_of ct_cost_of), sl_cost_of⟩) (c_cost_of : PySem.W.codeIn K cd_cost_of "cost_of" = true) (k_cost_of : PySem.W.keepIn K (.ref f_cost_of) = true)
    (a_cost : PySem.W.nsIn K mainGlobals "cost" = some (some (.ref f_cost))) (l_cost : K.lookup f_cost = some ⟨oc_cost, od_cost, .func (PySem.W.fnOf "cost" "cost" (defArgs s_cost) (defBody s_cost) (defScope s_cost) .none kV_cost dc_cost pm_cost an_cost cd_cost ct_cost), sl_cost⟩) (c_cost : PySem.W.codeIn K cd_cost "cost" = true) (k_cost : PySem.W.keepIn K (.ref f_cost) = true)
    (a__law_mill : PySem.W.nsIn K mainGlobals "_law_mill" = some (some (.ref f__law_mill))) (l__law_mill : K.lookup f__law_mill = some ⟨oc__law_mill, od__law_mill, .func (PySem.W.fnOf "_law_mill" "_law_mill" (defArgs s__law_mill) (defBody s__law_mill) (defScope s__law_mill) .none kV__law_mill dc__law_mill pm__law_mill an__law_mill cd__law_mill ct__law_mill), sl__law_mill⟩) (c__law_mill : PySem.W.codeIn K cd__law_mill "_law_mill" = true) (k__law_mill : PySem.W.keepIn K (.ref f__law_mill) = true)
    (a__law_draw : PySem.W.nsIn K mainGlobals "_law_draw" = some (some (.ref f__law_draw))) (l__law_draw : K.lookup f__law_draw = some ⟨oc__law_draw, od__law_draw, .func (PySem.W.fnOf "_law_draw" "_law_draw" (defArgs s__law_draw) (defBody s__law_draw) (defScope s__law_draw) .none kV__law_draw dc__law_draw pm__law_draw an__law_draw cd__law_draw ct__law_draw), sl__law_draw⟩) (c__law_draw : PySem.W.codeIn K cd__law_draw "_law_draw" = true) (k__law_draw : PySem.W.keepIn K (.ref f__law_draw) = true)
    (a__law_pick : PySem.W.nsIn K mainGlobals "_law_pick" = some (some (.ref f__law_pick))) (l__law_pick : K.lookup f__law_pick = some ⟨oc__law_pick, od__law_pick, .func (PySem.W.fnOf "_law_pick" "_law_pick" (defArgs s__law_pick) (defBody s__law_pick) (defScope s__law_pick) .none kV__law_pick dc__law_pick pm__law_pick an__law_pick cd__law_pick ct__law_pick), sl__law_pick⟩) (c__law_pick : PySem.W.codeIn K cd__law_pick "_law_pick" = true) (k__law_pick : PySem.W.keepIn K (.ref f__law_pick) = true)
    (a__law_calls : PySem.W.nsIn K mainGlobals "_law_calls" = some (some (.ref f__law_calls))) (l__law_calls : K.lookup f__law_calls = some ⟨oc__law_calls, od__law_calls, .func (PySem.W.fnOf "_law_calls" "_law_calls" (defArgs s__law_calls) (defBody s__law_calls) (defScope s__law_calls) .none kV__law_calls dc__law_calls pm__law_calls an__law_calls cd__law_calls ct__law_calls), sl__law_calls⟩) (c__law_calls : PySem.W.codeIn K cd__law_calls "_law_calls" = true) (k__law_calls : PySem.W.keepIn K (.ref f__law_calls) = true)
    (a__law_plan : PySem.W.nsIn K mainGlobals "_law_plan" = some (some (.ref f__law_plan))) (l__law_plan : K.lookup f__law_plan = some ⟨oc__law_plan, od__law_plan, .func (PySem.W.fnOf "_law_plan" "_law_plan" (defArgs s__law_plan) (defBody s__law_plan) (defScope s__law_plan) .none kV__law_plan dc__law_plan pm__law_plan an__law_plan cd__law_plan ct__law_plan), sl__law_plan⟩) (c__law_plan : PySem.W.codeIn K cd__law_plan "_law_plan" = true) (k__law_plan : PySem.W.keepIn K (.ref f__law_plan) = true)
    (a__law_turned : PySem.W.nsIn K mainGlobals "_law_turned" = some (some (.ref f__law_turned))) (l__law_turned : K.lookup f__law_turned = some ⟨oc__law_turned, od__law_turned, .func (PySem.W.fnOf "_law_turned" "_law_turned" (defArgs s__law_turned) (defBody s__law_turned) (defScope s__law_turned) .none kV__law_turned dc__law_turned pm__law_turned an__law_turned cd__law_turned ct__law_turned), sl__law_turned⟩) (c__law_turned : PySem.W.codeIn K cd__law_turned "_law_turned" = true) (k__law_turned : PySem.W.keepIn K (.ref f__law_turned) = true)
    (a__law_threads : PySem.W.nsIn K mainGlobals "_law_threads" = some (some (.ref f__law_threads))) (l__law_threads : K.lookup f__law_threads = some ⟨oc__law_threads, od__law_threads, .func (PySem.W.fnOf "_law_threads" "_law_threads" (defArgs s__law_threads) (defBody s__law_threads) (defScope s__law_threads) .none kV__law_threads dc__law_threads pm__law_threads an__law_threads cd__law_threads ct__law_threads), sl__law_threads⟩) (c__law_threads : PySem.W.codeIn K cd__law_threads "_law_threads" = true) (k__law_threads : PySem.W.keepIn K (.ref f__law_threads) = true)
    (a__law_all_gaps : PySem.W.nsIn K mainGlobals "_law_all_gaps" = some (some (.ref f__law_all_gaps))) (l__law_all_gaps : K.lookup f__law_all_gaps = some ⟨oc__law_all_gaps, od__law_all_gaps, .func (PySem.W.fnOf "_law_all_gaps" "_law_all_gaps" (defArgs s__law_all_gaps) (defBody s__law_all_gaps) (defScope s__law_all_gaps) .none kV__law_all_gaps dc__law_all_gaps pm__law_all_gaps an__law_all_gaps cd__law_all_gaps ct__law_all_gaps), sl__law_all_gaps⟩) (c__law_all_gaps : PySem.W.codeIn K cd__law_all_gaps "_law_all_gaps" = true) (k__law_all_gaps : PySem.W.keepIn K (.ref f__law_all_gaps) = true)
    (a__law_some : PySem.W.nsIn K mainGlobals "_law_some" = some (some (.ref f__law_some))) (l__law_some : K.lookup f__law_some = some ⟨oc__law_some, od__law_some, .func (PySem.W.fnOf "_law_some" "_law_some" (defArgs s__law_some) (defBody s__law_some) (defScope s__law_some) .none kV__law_some dc__law_some pm__law_some an__law_some cd__law_some ct__law_some), sl__law_some⟩) (c__law_some : PySem.W.codeIn K cd__law_some "_law_some" = true) (k__law_some : PySem.W.keepIn K (.ref f__law_some) = true)
    (a_law : PySem.W.nsIn K mainGlobals "law" = some (some (.ref f_law))) (l_law : K.lookup f_law = some ⟨oc_law, od_law, .func (PySem.W.fnOf "law" "law" (defArgs s_law) (defBody s_law) (defScope s_law) .none kV_law dc_law pm_law an_law cd_law ct_law), sl_law⟩) (c_law : PySem.W.codeIn K cd_law "law" = true) (k_law : PySem.W.keepIn K (.ref f_law) = true)
    (z_len : PySem.W.nsIn K mainGlobals "len" = some none)
    (z_range : PySem.W.nsIn K mainGlobals "range" = some none)
    (z_enumerate : PySem.W.nsIn K mainGlobals "enumerate" = some none)
    (z_list : PySem.W.nsIn K mainGlobals "list" = some none)
    (z_repr : PySem.W.nsIn K mainGlobals "repr" = some none)
    (z_tuple : PySem.W.nsIn K mainGlobals "tuple" = some none)
    (z_sorted : PySem.W.nsIn K mainGlobals "sorted" = some none)
    (z_sum : PySem.W.nsIn K mainGlobals "sum" = some none)
    (z_min : PySem.W.nsIn K mainGlobals "min" = some none)
    (z_int : PySem.W.nsIn K mainGlobals "int" = some none) :
    ∃ fd : FuncData, (∀ (s : Shared) (u : Value), BindsTo s fd ⟨[u], []⟩ [("script", u)]) ∧ ∀ base : Heap, K.In base → base.Ns mainGlobals mg → base.NoDigits → Dl.FnG P w K mg base CX0 5 fa fd ["script"] (sp_law K) := by
  have e : f_law = fa := by
    have e := hfa.symm.trans (PySem.W.mg_of X G a_law)
    cases e
    rfl
  subst e
  have T : { T : Txt K mg // T.f_law = f_law ∧ T.fd_law = PySem.W.fnOf "law" "law" (defArgs s_law) (defBody s_law) (defScope s_law) .none kV_law dc_law pm_law an_law cd_law ct_law } := ⟨{ f_cost_of := f_cost_of, fd_cost_of := _, F_cost_of := fun_mk (st := s_cost_of) l_cost_of c_cost_of k_cost_of, g_cost_of := PySem.W.mg_of X G a_cost_of, f_cost := f_cost, fd_cost := _, F_cost := fun_mk (st := s_cost) l_cost c_cost k_cost, g_cost := PySem.W.mg_of X G a_cost, f__law_mill := f__law_mill, fd__law_mill := _, F__law_mill := fun_mk (st := s__law_mill) l__law_mill c__law_mill k__law_mill, g__law_mill := PySem.W.mg_of X G a__law_mill, f__law_draw := f__law_draw, fd__law_draw := _, F__law_draw := fun_mk (st := s__law_draw) l__law_draw c__law_draw k__law_draw, g__law_draw := PySem.W.mg_of X G a__law_draw, f__law_pick := f__law_pick, fd__law_pick := _, F__law_pick := fun_mk (st := s__law_pick) l__law_pick c__law_pick k__law_pick, g__law_pick := PySem.W.mg_of X G a__law_pick, f__law_calls := f__law_calls, fd__law_calls := _, F__law_calls := fun_mk (st := s__law_calls) l__law_calls c__law_calls k__law_calls, g__law_calls := PySem.W.mg_of X G a__law_calls, f__law_plan := f__law_plan, fd__law_plan := _, F__law_plan := fun_mk (st := s__law_plan) l__law_plan c__law_plan k__law_plan, g__law_plan := PySem.W.mg_of X G a__law_plan, f__law_turned := f__law_turned, fd__law_turned := _, F__law_turned := fun_mk (st := s__law_turned) l__law_turned c__law_turned k__law_turned, g__law_turned := PySem.W.mg_of X G a__law_turned, f__law_threads := f__law_threads, fd__law_threads := _, F__law_threads := fun_mk (st := s__law_threads) l__law_threads c__law_threads k__law_threads, g__law_threads := PySem.W.mg_of X G a__law_threads, f__law_all_gaps := f__law_all_gaps, fd__law_all_gaps := _, F__law_all_gaps := fun_mk (st := s__law_all_gaps) l__law_all_gaps c__law_all_gaps k__law_all_gaps, g__law_all_gaps := PySem.W.mg_of X G a__law_all_gaps, f__law_some := f__law_some, fd__law_some := _, F__law_some := fun_mk (st := s__law_some) l__law_some c__law_some k__law_some, g__law_some := PySem.W.mg_of X G a__law_some, f_law := f_law, fd_law := _, F_law := fun_mk (st := s_law) l_law c_law k_law, g_law := PySem.W.mg_of X G a_law, n_len := PySem.W.mg_none_of X G z_len, n_range := PySem.W.mg_none_of X G z_range, n_enumerate := PySem.W.mg_none_of X G z_enumerate, n_list := PySem.W.mg_none_of X G z_list, n_repr := PySem.W.mg_none_of X G z_repr, n_tuple := PySem.W.mg_none_of X G z_tuple, n_sorted := PySem.W.mg_none_of X G z_sorted, n_sum := PySem.W.mg_none_of X G z_sum, n_min := PySem.W.mg_none_of X G z_min, n_int := PySem.W.mg_none_of X G z_int }, rfl, rfl⟩
  obtain ⟨T, h1, h2⟩ := T
  rw [← h1]
  refine ⟨T.fd_law, fun s v => ?_, fun base _ _ hnd => ok_law T hnd law_true⟩
  rw [h2]
  exact .of_eq rfl
end K27
open PySem PySem.W PyProof.Rows
set_option maxRecDepth 100000 in
set_option maxHeartbeats 8000000 in
theorem PySem.Challenge.cw_risingsheets_k27_what_cuts_cost_holds : PySem.Challenge.rw_risingsheets_k27_what_cuts_cost.Holds := by
  w_on; o_law; k_head; (case hw => w_witness2)
  k_fill
  refine Dl.walk_ofG (l := PySem.Challenge.rw_risingsheets_k27_what_cuts_cost) (n := 63) (k := 5) (x := "script") (C := fun _ => L2.CX0) (sp := fun w => Dl.sp_law _) rfl (by decide) rfl ⟨rfl, by decide, by decide⟩ (fun w h Y => PySem.W.kIn_of Y) ?F (fun _ H a ns hl hO hS => Dl.law_end hl hO hS) (fun _ _ _ _ _ h => h)
  case F =>
    intro w mg fa h KX G hmg
    refine' K27.all_mk KX G hmg ?a_cost_of ?l_cost_of ?c_cost_of ?k_cost_of ?a_cost ?l_cost ?c_cost ?k_cost ?a__law_mill ?l__law_mill ?c__law_mill ?k__law_mill ?a__law_draw ?l__law_draw ?c__law_draw ?k__law_draw ?a__law_pick ?l__law_pick ?c__law_pick ?k__law_pick ?a__law_calls ?l__law_calls ?c__law_calls ?k__law_calls ?a__law_plan ?l__law_plan ?c__law_plan ?k__law_plan ?a__law_turned ?l__law_turned ?c__law_turned ?k__law_turned ?a__law_threads ?l__law_threads ?c__law_threads ?k__law_threads ?a__law_all_gaps ?l__law_all_gaps ?c__law_all_gaps ?k__law_all_gaps ?a__law_some ?l__law_some ?c__law_some ?k__law_some ?a_law ?l_law ?c_law ?k_law ?z_len ?z_range ?z_enumerate ?z_list ?z_repr ?z_tuple ?z_sorted ?z_sum ?z_min ?z_int
    (case a_cost_of => k_is)
    (case l_cost_of => k_is)
    (case c_cost_of => k_is)
    (case k_cost_of => k_is)
    (case a_cost => k_is)
    (case l_cost => k_is)
    (case c_cost => k_is)
    (case k_cost => k_is)
    (case a__law_mill => k_is)
    (case l__law_mill => k_is)
    (case c__law_mill => k_is)
    (case k__law_mill => k_is)
    (case a__law_draw => k_is)
    (case l__law_draw => k_is)
    (case c__law_draw => k_is)
    (case k__law_draw => k_is)
    (case a__law_pick => k_is)
    (case l__law_pick => k_is)
    (case c__law_pick => k_is)
    (case k__law_pick => k_is)
    (case a__law_calls => k_is)
    (case l__law_calls => k_is)
    (case c__law_calls => k_is)
    (case k__law_calls => k_is)
    (case a__law_plan => k_is)
    (case l__law_plan => k_is)
    (case c__law_plan => k_is)
    (case k__law_plan => k_is)
    (case a__law_turned => k_is)
    (case l__law_turned => k_is)
    (case c__law_turned => k_is)
    (case k__law_turned => k_is)
    (case a__law_threads => k_is)
    (case l__law_threads => k_is)
    (case c__law_threads => k_is)
    (case k__law_threads => k_is)
    (case a__law_all_gaps => k_is)
    (case l__law_all_gaps => k_is)
    (case c__law_all_gaps => k_is)
    (case k__law_all_gaps => k_is)
    (case a__law_some => k_is)
    (case l__law_some => k_is)
    (case c__law_some => k_is)
    (case k__law_some => k_is)
    (case a_law => k_is)
    (case l_law => k_is)
    (case c_law => k_is)
    (case k_law => k_is)
    (case z_len => k_is)
    (case z_range => k_is)
    (case z_enumerate => k_is)
    (case z_list => k_is)
    (case z_repr => k_is)
    (case z_tuple => k_is)
    (case z_sorted => k_is)
    (case z_sum => k_is)
    (case z_min => k_is)
    (case z_int => k_is)

