import PyProof.Rows.All
import Wide.All
import OpenK.AllK
import Wide.FinOn
import HandS.ForMost
import HandS.Exc
import HandS.ExcInit
import PyProof.ReprRoads
import HandS.WideBits
import HandS.Wide
import HandS.Style
import HandS.IsInst
import HandS.Walk
import HandS.FStrTup
import HandS.Gcd
import HandS.Star
import HandS.WordsDict
import HandS.TupAny
import HandS.TupMul
import HandS.Zip
import KE.GoesMore
import KE.GoesEnum
import KE.KMathGC
import HandS.Conv
import HandS.RevTup
import HandS.Sort
import HandS.Defaults
import PySem.Challenge.RW_backwalks_k23_whole_foster_and_there_and
set_option Elab.async false
set_option linter.all false
set_option maxRecDepth 100000
set_option maxHeartbeats 8000000
/-! Part 0. Defs that are run where no printing is under way (the guards are known to be none). -/
namespace Bw
open PySem PySem.Spec PyProof.Rows L2

/-- as a def's promise, for callers whose guards are none -/
structure FnG (P : Program) (w : World) (K : PySem.W.Frag) (mg : Str → Option Value) (base : Heap)
    (k : Nat) (f : Addr) (fd : FuncData) (ps : List Str) (sp : Sp) : Prop where
  len : ∀ vs H Q E, sp vs H Q E → vs.length = ps.length
  run : ∀ (A : Around) (outer : List Env) (s : Shared) (H : Hp) (args : Args) (us : List Value) (vs : List V)
    (Q : VK) (E : XK), A.guards = some [] → Room k A → Env0 P w K mg base A outer s H →
    BindsTo s fd args (ps.zip us) → Vals vs us → sp vs H Q E →
    codeAny (model P w) A (.call (.ref f) args) (CR CX0 outer P w H s Q E) s

theorem FnG.of {P : Program} {w : World} {K : PySem.W.Frag} {mg : Str → Option Value} {base : Heap}
    {k : Nat} {f : Addr} {fd : FuncData} {ps : List Str} {sp : Sp}
    (F : FnOk P w K mg base CX0 k f fd ps sp) : FnG P w K mg base k f fd ps sp :=
  ⟨F.len, fun A outer s H args us vs Q E _ hr he hb hv hs => F.run A outer s H args us vs Q E hr he hb hv hs⟩

section
variable {X : Cx} {k : Nat} {f : Addr} {fd : FuncData} {ps : List Str} {sp : Sp} {x : Str} {p pos : Pos}
  {e : Expr} {es : List Expr} {t : TA}

/-- what a guarded callee leaves -/
theorem runG {pins : List (Addr × Obj)} {σ : L2.St} {H : Hp} {s : Shared} {Q : VK} {us : List Value} {vs : List V}
    (F : FnG X.prog X.w X.K X.mg X.base k f fd ps sp) (hG : X.A.guards = some []) (hr : Room k X.A)
    (hb : Binds X.K fd ps []) (I : Inv X pins σ H s) (r : Vals vs us) (h : sp vs H Q E0) :
    wpAny (model X.prog X.w) X.A (call (.ref f) us) (EP X pins σ Q) X.xe s := by
  have hl : (us ++ []).length = ps.length := by
    rw [List.append_nil, ← r.length]
    exact F.len _ _ _ _ h
  have hb' := hb s us I.kIn hl
  rw [List.append_nil] at hb'
  refine wpAny_call (codeAny_mono
    (F.run X.A X.stack s H ⟨us, []⟩ us vs Q E0 hG hr I.env0 hb' r h) fun q s' hq => ?_)
  match q, hq with
  | .error _, hq => exact False.elim hq
  | .ok (.ret _), hq => exact I.after hq
  | .ok .next, hq => exact False.elim hq
  | .ok .brk, hq => exact False.elim hq
  | .ok .cont, hq => exact False.elim hq

theorem pe_callG (F : FnG X.prog X.w X.K X.mg X.base k f fd ps sp) (hG : X.A.guards = some []) (hr : Room k X.A)
    (hg : Gl X x) (hm : X.mg x = some (.ref f)) (hk : PySem.W.keepIn X.K (.ref f) = true)
    (hb : Binds X.K fd ps []) (ha : PA X (e :: es) t)
    (hdb : (x == ("__debug__" : Str)) = false := by decide)
    (he : starEach (e :: es) X.env = (false, eval e X.env) :: starEach es X.env := by rfl)
    (hpl : (backTo pos (starEach es X.env)).any (·.1) = false := by rfl) :
    PE X (.Call (.Name x p) (e :: es) [] pos) (tCall sp [] E0 t) := by
  refine ⟨fun pins s σ H Q I h => wpAny_Call_Name_kw (ld_glob I hg hm ?_ hdb)⟩
  refine PySem.W.callWith_K (h₀ := X.base) I.ok.mod.kin hk
    (thn (ha.run pos pins s σ H _ I h) fun us s1 ⟨vs, H1, I1, r, q⟩ => ⟨I1.kIn, ?_⟩) he hpl
  refine runG F hG hr hb I1 r ?_
  rw [← List.append_nil vs]
  exact q
end

/-- a def of the text, by its body, where the guards are none -/
theorem okG {P : Program} {w : World} {K : PySem.W.Frag} {mg : Str → Option Value} {base : Heap}
    {x qual : Str} {st : Stmt} {f : Addr} {fd : FuncData} {N ps : List Str} {k : Nat} {sp : Sp}
    (F : Fun K x qual st f fd) (S : FnScope N ps (defScope st))
    (len : ∀ vs H Q E, sp vs H Q E → vs.length = ps.length)
    (hbody : ∀ (cdv : Value) (A : Around) (outer : List Env) (s : Shared) (H : Hp) (vs : List V) (Q : VK) (E : XK),
      A.guards = some [] → Room k (A.deeper (envOfC qual (defScope st) s.heap.objs.size f cdv)) → sp vs H Q E →
      ∃ t, PSs (cxOf CX0 P w K mg base N qual (defScope st) f cdv A outer s H E).nox (defBody st) t ∧
        t { nx := fun _ H' => Q .non H', rt := Q } (start N vs) H) :
    FnG P w K mg base (k + 1) f fd ps sp := by
  obtain ⟨oc, od, kV, doc, pm, an, cdv, ct, osl, rfl, lk, hcd⟩ := F.ex
  refine ⟨len, ?_⟩
  intro A outer s H args us vs Q E hG hr e0 hb r hsp
  have hl := len _ _ _ _ hsp
  have keepB : ∀ b o, base.get? b = some o → s.heap.get? b = some o := fun b o e => (e0.bs b o e).1
  have KX : K.In s.heap := e0.mod.kin.keeps keepB
  have lim : s.heap.NoLimit := e0.mod.nolimit.keeps keepB
  refine codeAny_call_function hr.depth (KX _ _ lk) rfl S.co S.gen rfl (PySem.W.codeRec_of KX hcd)
    (hb _ _ _ _ ?_)
  refine wpAny_newFunctionEnv_cells S.kind (fun y hy => ?_) fun env he s1 x => ?_
  · obtain ⟨n, v⟩ := y
    cases S.par n (List.of_mem_zip hy).1 with
    | inl q => exact .inl q
    | inr q => exact .inr ⟨q, PySem.W.cellsFrom_some _ _ _ (.inl q)⟩
  subst he
  refine ⟨lim.keeps x.toInCall.keep, codeAny_func ?_⟩
  obtain ⟨t, ht, hq⟩ := hbody cdv A outer s H vs Q E hG (hr.deeper _) hsp
  have I := inv_start (CX := CX0) (P := P) (w := w) (K := K) (mg := mg) (base := base) (N := N) (qual := qual)
    (cd := cdv) (E := E) (f := f) S hr.hd e0 hl r x
  refine wpAny_mono (ht.nox.run [] s1 (start N vs) H _ I hq) (fun fl s' hs => ?_) fun e s' hs => hs
  match fl, hs with
  | .ret _, ⟨v, _, H', J, rv, q⟩ => exact ⟨v, H', J.os, J.bare, J.base, J.hok, rv, q⟩
  | .next, ⟨_, H', J, q⟩ => exact ⟨.non, H', J.os, J.bare, J.base, J.hok, rfl, q⟩
  | .brk, ⟨_, _, _, q⟩ => exact False.elim q
  | .cont, ⟨_, _, _, q⟩ => exact False.elim q

/-! ### the law's own call -/
section
variable {P : Program} {w : World} {K : PySem.W.Frag} {mg mb : Str → Option Value} {k : Nat} {fa a : Addr}
  {fd : FuncData} {x : Str} {sp : Sp} {s₁ : Shared} {vs : List Value} {ns : List Int}

/-- the heap that knows the script alone, or nothing -/
def scriptH (a : Addr) (o : Option HO) : Hp := fun b => if b = a then o else none

theorem scriptH_same {a : Addr} {o : Option HO} : scriptH a o a = o := if_pos rfl
theorem scriptH_ne {a b : Addr} {o : Option HO} (h : b ≠ a) : scriptH a o b = none := if_neg h

abbrev LawEnd (s₁ : Shared) (r : Result) (s' : Shared) : Prop :=
  r = .ok (.ret (.bool true)) ∧ OldK s₁.heap s'.heap ∧ s'.os = s₁.os ∧ AllBare s'.gens

theorem law_runG (KX : K.In s₁.heap) (hns : s₁.heap.Ns mainGlobals mg) (hb : s₁.heap.Ns builtinsNs mb)
    (hbb : ∀ x : Str, x ≠ "__name__" → mb x = bootBuiltins x) (hlim : s₁.heap.NoLimit) (hg : s₁.gens = #[])
    (ha : s₁.heap.get? a = some { cls := .type "list", data := .seq vs.toArray }) (hr : Room k callerA)
    (F : ∀ base : Heap, K.In base → base.Ns mainGlobals mg → FnG P w K mg base k fa fd [x] sp)
    (hbind : ∀ (s : Shared) (u : Value), BindsTo s fd ⟨[u], []⟩ [(x, u)])
    {H : Hp} (hO : Only H) (hok : HOk P w H s₁.heap) (hA : ∀ b, H b ≠ none → b = a)
    (hK : H a ≠ none → K.lookup a = none) (hsp : sp [.ref a] H (fun v _ => v = .bl true) E0) :
    codeAny (model P w) callerA (.call (.ref fa) ⟨[.ref a], []⟩) (LawEnd s₁) s₁ := by
  have only_a : ∀ {b : Addr}, b ≠ a → H b = none := fun {b} ne => by
    cases q : H b with
    | none => rfl
    | some u => exact absurd (hA b (by rw [q]; exact fun z => nomatch z)) ne
  have noDict : ∀ {b : Addr} {o : Obj} {es : Array DictEntry} {ep : Nat},
      s₁.heap.get? b = some o → o.data = .dict es ep → H b = none := fun {b o es ep} e d => by
    by_cases hb : b = a
    · rw [hb, ha] at e
      cases e
      have d' : Data.seq vs.toArray _ = Data.dict es ep := d
      cases d'
    · exact only_a hb
  have toNs : ∀ {b : Addr} {m : Str → Option Value}, s₁.heap.Ns b m → (hidT s₁.heap H).Ns b m :=
    fun {b m} ⟨o, es, ep, e, d, r⟩ => ⟨o, es, ep, hidT_get e (noDict e d), d, r⟩
  have hKb : K.In (hidT s₁.heap H) := fun b o e => by
    refine hidT_get (KX b o e) ?_
    by_cases hb : b = a
    · cases q : H b with
      | none => rfl
      | some u =>
        rw [hb] at e q
        rw [hK (by rw [q]; exact fun z => nomatch z)] at e
        cases e
    · exact only_a hb
  have hM : Mod K mg (hidT s₁.heap H) := by
    refine ⟨hKb, toNs hns, ⟨mb, toNs hb, hbb⟩, ?_⟩
    obtain ⟨mc, h1, h2⟩ := hlim
    exact ⟨mc, toNs h1, h2⟩
  have noA : ∀ b : Addr, b ∉ frs [] := fun b z => absurd (show b ∈ ([] : List Addr) from z) (by simp)
  have e0 : Env0 P w K mg (hidT s₁.heap H) callerA [] s₁ H :=
    ⟨rfl, hM, fun b o e => of_hidT e, Nat.le_of_eq (hidT_size _ _), trivial,
      fun b z => absurd z (noA b), hok, .of_eq hg⟩
  refine codeAny_mono ((F _ hKb (toNs hns)).run callerA [] s₁ H ⟨[.ref a], []⟩ [.ref a] [.ref a] _ _
    rfl hr e0 (hbind s₁ (.ref a)) (.cons rfl .nil) hsp) fun r s' h => ?_
  match r, h with
  | .error _, h => exact False.elim h
  | .ok .next, h => exact False.elim h
  | .ok .brk, h => exact False.elim h
  | .ok .cont, h => exact False.elim h
  | .ok (.ret u), ⟨v, H', os, bare, un, hok', rv, q⟩ =>
    have q' : v = .bl true := q
    subst q'
    obtain rfl : u = Value.bool true := rv
    refine ⟨rfl, OldK.of_keep fun b o e => ?_, os, bare⟩
    cases q : H b with
    | none => exact un.keep b o e q (noA b) (by simp)
    | some u =>
      rcases hO b with z | ⟨ob, xs, z⟩
      · rw [q] at z
        cases z
      · obtain ⟨e1, _⟩ := hok b _ z
        obtain ⟨e2, _⟩ := hok' b _ (un.frzs b ob _ z)
        rw [e] at e1
        cases e1
        exact e2

theorem law_callG (KX : K.In s₁.heap) (hns : s₁.heap.Ns mainGlobals mg) (hb : s₁.heap.Ns builtinsNs mb)
    (hbb : ∀ x : Str, x ≠ "__name__" → mb x = bootBuiltins x) (hlim : s₁.heap.NoLimit) (hg : s₁.gens = #[])
    (ha : s₁.heap.get? a = some { cls := .type "list", data := .seq vs.toArray }) (hi : IntsAre vs ns)
    (hl : ns.length ≤ sizeLine) (hr : Room k callerA)
    (F : ∀ base : Heap, K.In base → base.Ns mainGlobals mg → FnG P w K mg base k fa fd [x] sp)
    (hbind : ∀ (s : Shared) (u : Value), BindsTo s fd ⟨[u], []⟩ [(x, u)])
    (hsp : ∀ H : Hp, Only H → SqL K H a (ns.map V.int) → sp [.ref a] H (fun v _ => v = .bl true) E0) :
    codeAny (model P w) callerA (.call (.ref fa) ⟨[.ref a], []⟩) (LawEnd s₁) s₁ := by
  have rv := vals_ints hi
  have lenV := hi.length
  cases hk : K.lookup a with
  | some o =>
    have e := KX a o hk
    rw [ha] at e
    cases e
    refine law_runG (H := fun _ => none) KX hns hb hbb hlim hg ha hr F hbind (fun _ => .inl rfl)
      (fun b u z => nomatch (show (none : Option HO) = some u from z)) (fun b z => absurd rfl z) (fun z => absurd rfl z) (hsp _ (fun _ => .inl rfl) ?_)
    exact .inr ⟨_, vs.toArray, _, hk, rfl, rfl, rfl, by rw [List.size_toArray, lenV]; exact hl, by simpa using rv⟩
  | none =>
    have only : Only (scriptH a (some (.frz { cls := .type "list", data := .seq vs.toArray } (.lst (ns.map V.int))))) := fun b => by
      by_cases hb : b = a
      · exact .inr ⟨_, _, by rw [hb]; exact scriptH_same⟩
      · exact .inl (scriptH_ne hb)
    refine law_runG KX hns hb hbb hlim hg ha hr F hbind only (fun b u z => ?_) (fun b z => ?_) (fun _ => hk)
      (hsp _ only (.inl (.inr ⟨_, scriptH_same⟩)))
    · by_cases hb : b = a
      · rw [hb, scriptH_same] at z
        cases z
        rw [hb]
        exact ⟨ha, by rw [List.length_map]; exact hl, vs, _, rv, ha⟩
      · rw [scriptH_ne hb] at z
        cases z
    · by_cases hb : b = a
      · exact hb
      · exact absurd (scriptH_ne hb) z
end

/-- the end of a law's row, by a guarded promise -/
theorem walk_G {l : PySem.W.OpenLaw} {n k : Nat} {q : Program} {loose : List Str}
    {XP : (Str → Option Value) → Heap → Prop} {YP : World → Heap → Prop} {d : DefRec} {K : Params → PySem.W.Frag}
    {sp : PySem.W.Frag → Sp} {x : Str} (hn : l.most = some n) (hn2 : n ≤ sizeLine) (hdf : d.params.defaults = [])
    (hr : Room k callerA) (hY : ∀ (w : World) (h : Heap), YP w h → (K w.params).In h)
    (F : ∀ (w : World) (mg : Str → Option Value) (fa : Addr) (h : Heap), (K w.params).In h → h.Ns mainGlobals mg →
      mg d.name = some (.ref fa) → ∃ fd : FuncData, (∀ (s : Shared) (u : Value), BindsTo s fd ⟨[u], []⟩ [(x, u)]) ∧
        ∀ base : Heap, (K w.params).In base → base.Ns mainGlobals mg →
          FnG l.prog w (K w.params) mg base k fa fd [x] (sp (K w.params)))
    (hsp : ∀ (K : PySem.W.Frag) (H : Hp) (a : Addr) (ns : List Int), ns.length ≤ n → Only H →
      SqL K H a (ns.map V.int) → sp K [.ref a] H (fun v _ => v = .bl true) E0) :
    PySem.W.WalkO q loose XP YP l.row.toRowW d [] (fun f vs => PySem.call f vs) := by
  refine Att.attach_call hn hdf ?_
  intro w s₀ s₁ mg mb fa o pm cd doc a vs ns G Y ho hd hcd hmg hobj hints hlen hg
  have KX := hY w _ Y
  obtain ⟨fd, hb, hF⟩ := F w mg fa _ KX G.T.g hmg
  exact law_callG KX G.T.g G.T.b G.T.builtins G.T.nolimit hg hobj hints (Nat.le_trans hlen hn2) hr hF hb
    fun H hO hS => hsp _ H a ns hlen hO hS
end Bw
/-! Part 1. Data that stands in the abstract heap, dicts too, apart from what may change; its printing. -/
namespace Bw
open PySem PySem.Spec PyProof.Rows L2

/-- all that H knows but at W stands in H' -/
def Kp (W : Addr → Prop) (H H' : Hp) : Prop := ∀ a o, ¬ W a → H a = some o → H' a = some o
theorem Kp.refl {W : Addr → Prop} (H : Hp) : Kp W H H := fun _ _ _ e => e
theorem Kp.trans {W : Addr → Prop} {H H1 H2 : Hp} (a : Kp W H H1) (b : Kp W H1 H2) : Kp W H H2 :=
  fun x o n e => b x o n (a x o n e)
theorem Kp.new {W : Addr → Prop} {H : Hp} {p : Addr} {o : HO} (h : H p = none) : Kp W H (upd H p o) := fun a u _ e => by
  rw [upd_ne (ne_of_none e h)]
  exact e
theorem Kp.mut {W : Addr → Prop} {H : Hp} {p : Addr} {o : HO} (h : W p) : Kp W H (upd H p o) := fun a u n e => by
  rw [upd_ne (fun z : a = p => n (by rw [z]; exact h))]
  exact e
theorem Kp.same {W : Addr → Prop} {H H' : Hp} (h : Same H H') : Kp W H H' := fun a o _ e => h a o e
/-- what was not known before may change -/
theorem Kp.upd {W : Addr → Prop} {H H' : Hp} {p : Addr} {o : HO} (e : Kp W H H') (h : H p = none) : Kp W H (L2.upd H' p o) :=
  fun a u n q => by
    rw [upd_ne (ne_of_none q h)]
    exact e a u n q
theorem Kp.mono {W W' : Addr → Prop} {H H' : Hp} (e : Kp W H H') (h : ∀ a, W a → W' a) : Kp W' H H' :=
  fun a o n q => e a o (fun z => n (h a z)) q

def keyD : Key → PyData
  | .inl i => .int i
  | .inr x => .str x

mutual
inductive Dq (W : Addr → Prop) (H : Hp) : V → PyData → Prop
  | non : Dq W H .non .none
  | bl (b : Bool) : Dq W H (.bl b) (.bool b)
  | int (i : Int) : Dq W H (.int i) (.int i)
  | str (x : Str) : Dq W H (.str x) (.str x)
  | lst {a : Addr} {xs : List V} {ds : List PyData} : ¬ W a → H a = some (.lst xs) → DqAll W H xs ds → Dq W H (.ref a) (.list ds)
  | tup {a : Addr} {xs : List V} {ds : List PyData} : ¬ W a → H a = some (.tup xs) → DqAll W H xs ds → Dq W H (.ref a) (.tuple ds)
  | dct {a : Addr} {kvs : List (Key × V)} {ds : List PyData} : ¬ W a → H a = some (.dK kvs) → DqAll W H (kvs.map (·.2)) ds →
      Dq W H (.ref a) (.dict ((kvs.map fun kv => keyD kv.1).zip ds))
inductive DqAll (W : Addr → Prop) (H : Hp) : List V → List PyData → Prop
  | nil : DqAll W H [] []
  | cons {v : V} {vs : List V} {d : PyData} {ds : List PyData} : Dq W H v d → DqAll W H vs ds → DqAll W H (v :: vs) (d :: ds)
end

mutual
theorem Dq.keep {W : Addr → Prop} {H H' : Hp} (k : Kp W H H') : ∀ {v : V} {d : PyData}, Dq W H v d → Dq W H' v d
  | _, _, .non => .non
  | _, _, .bl b => .bl b
  | _, _, .int i => .int i
  | _, _, .str x => .str x
  | _, _, .lst n e h => .lst n (k _ _ n e) (DqAll.keep k h)
  | _, _, .tup n e h => .tup n (k _ _ n e) (DqAll.keep k h)
  | _, _, .dct n e h => .dct n (k _ _ n e) (DqAll.keep k h)
theorem DqAll.keep {W : Addr → Prop} {H H' : Hp} (k : Kp W H H') : ∀ {vs : List V} {ds : List PyData}, DqAll W H vs ds → DqAll W H' vs ds
  | _, _, .nil => .nil
  | _, _, .cons h t => .cons (Dq.keep k h) (DqAll.keep k t)
end
mutual
theorem Dq.weak {W W' : Addr → Prop} {H : Hp} (k : ∀ a, W a → W' a) : ∀ {v : V} {d : PyData}, Dq W' H v d → Dq W H v d
  | _, _, .non => .non
  | _, _, .bl b => .bl b
  | _, _, .int i => .int i
  | _, _, .str x => .str x
  | _, _, .lst n e h => .lst (fun z => n (k _ z)) e (DqAll.weak k h)
  | _, _, .tup n e h => .tup (fun z => n (k _ z)) e (DqAll.weak k h)
  | _, _, .dct n e h => .dct (fun z => n (k _ z)) e (DqAll.weak k h)
theorem DqAll.weak {W W' : Addr → Prop} {H : Hp} (k : ∀ a, W a → W' a) : ∀ {vs : List V} {ds : List PyData}, DqAll W' H vs ds → DqAll W H vs ds
  | _, _, .nil => .nil
  | _, _, .cons h t => .cons (Dq.weak k h) (DqAll.weak k t)
end
theorem DqAll.length {W : Addr → Prop} {H : Hp} : ∀ {vs : List V} {ds : List PyData}, DqAll W H vs ds → vs.length = ds.length
  | _, _, .nil => rfl
  | _, _, .cons _ t => congrArg (· + 1) t.length
theorem DqAll.rep {W : Addr → Prop} {H : Hp} {v : V} {d : PyData} (h : Dq W H v d) : ∀ n : Nat, DqAll W H (List.replicate n v) (List.replicate n d)
  | 0 => .nil
  | n + 1 => .cons h (DqAll.rep h n)
theorem DqAll.app {W : Addr → Prop} {H : Hp} {vs ws : List V} {ds es : List PyData} : DqAll W H vs ds → DqAll W H ws es → DqAll W H (vs ++ ws) (ds ++ es)
  | .nil, k => k
  | .cons h t, k => .cons h (t.app k)
theorem DqAll.bls {W : Addr → Prop} {H : Hp} : ∀ bs : List Bool, DqAll W H (bs.map V.bl) (bs.map PyData.bool)
  | [] => .nil
  | b :: r => .cons (.bl b) (DqAll.bls r)
theorem DqAll.at {W : Addr → Prop} {H : Hp} : ∀ {vs : List V} {ds : List PyData} {i : Nat} {v : V}, DqAll W H vs ds → vs[i]? = some v → ∃ d, ds[i]? = some d ∧ Dq W H v d
  | _, _, _, _, .nil, e => by simp at e
  | _, _, 0, _, .cons h _, e => by
    simp at e
    subst e
    exact ⟨_, rfl, h⟩
  | _, _, i + 1, _, .cons _ t, e => t.at (i := i) e

/-! ### what is read off the heap, dicts other than that of the modules -/
mutual
inductive RdS (h : Heap) : Value → PyData → Prop
  | none : RdS h .none .none
  | bool (b) : RdS h (.bool b) (.bool b)
  | int (i t) : RdS h (.int i t) (.int i)
  | str (x t) : RdS h (.str x t) (.str x)
  | list {a o vs n xs} : h.get? a = some o → o.cls = .type "list" → o.data = .seq vs n → RdSAll h vs.toList xs → RdS h (.ref a) (.list xs)
  | tuple {a o vs n xs} : h.get? a = some o → o.cls = .type "tuple" → o.data = .seq vs n → RdSAll h vs.toList xs → RdS h (.ref a) (.tuple xs)
  | dict {a o es n kvs} : h.get? a = some o → o.cls = .type "dict" → o.data = .dict es n → (a == sysModules) = false →
      RdSAll h (es.toList.map (·.key)) (kvs.map (·.1)) → RdSAll h (es.toList.map (·.val)) (kvs.map (·.2)) → RdS h (.ref a) (.dict kvs)
inductive RdSAll (h : Heap) : List Value → List PyData → Prop
  | nil : RdSAll h [] []
  | cons {v vs d ds} : RdS h v d → RdSAll h vs ds → RdSAll h (v :: vs) (d :: ds)
end
mutual
theorem RdS.reads {h : Heap} : ∀ {v : Value} {d : PyData}, RdS h v d → ∃ as, Reads h v d as
  | _, _, .none => ⟨_, .none⟩
  | _, _, .bool b => ⟨_, .bool b⟩
  | _, _, .int i t => ⟨_, .int i t⟩
  | _, _, .str x t => ⟨_, .str x t⟩
  | _, _, .list h1 h2 h3 h4 => let ⟨_, q⟩ := RdSAll.reads h4; ⟨_, .list h1 h2 h3 q⟩
  | _, _, .tuple h1 h2 h3 h4 => let ⟨_, q⟩ := RdSAll.reads h4; ⟨_, .tuple h1 h2 h3 q⟩
  | _, _, .dict h1 h2 h3 _ h4 h5 => let ⟨_, q⟩ := RdSAll.reads h4; let ⟨_, r⟩ := RdSAll.reads h5; ⟨_, .dict h1 h2 h3 q r⟩
theorem RdSAll.reads {h : Heap} : ∀ {vs : List Value} {ds : List PyData}, RdSAll h vs ds → ∃ as, ReadsAll h vs ds as
  | _, _, .nil => ⟨_, .nil⟩
  | _, _, .cons h1 h2 => let ⟨_, q⟩ := RdS.reads h1; let ⟨_, r⟩ := RdSAll.reads h2; ⟨_, .cons q r⟩
end

section
variable {prog : Program} {w : World} {h₀ : Heap}
mutual
theorem RdS.reprK : ∀ {v : Value} {d : PyData}, RdS h₀ v d → d.showable = true → d.shown.length ≤ sizeLine →
    ∃ bs, ReadAtMost h₀ d.depth bs ∧ ReprK prog w bs h₀ d.depth v d.shown
  | _, _, .none, _, _ => ⟨[], (fun _ h => nomatch h), by simp only [PyData.shown]; exact .of_is ReprIs.none _ _ _⟩
  | _, _, .bool b, _, _ => ⟨[], (fun _ h => nomatch h), by simp only [PyData.shown]; exact .of_is (ReprIs.bool b) _ _ _⟩
  | _, _, .int i t, hs, _ =>
    ⟨[], (fun _ h => nomatch h), by simp only [PyData.shown]; exact .of_is (ReprIs.int t (by simpa [PyData.showable] using hs)) _ _ _⟩
  | _, _, .str x t, _, hz =>
    ⟨[], (fun _ h => nomatch h), by simp only [PyData.shown]; exact .of_is (ReprIs.str x t (by simpa only [PyData.shown] using hz)) _ _ _⟩
  | _, _, .list (a := a) (vs := vs) (xs := xs) h1 h2 h3 h4, hs, hz => by
    have hz' : (listText (PyData.shownAll xs)).length ≤ sizeLine := by simpa only [PyData.shown] using hz
    obtain ⟨bs, hb, hk⟩ := RdSAll.reprK h4 (by simpa [PyData.showable] using hs) fun t ht => Nat.le_trans (listText_mem_le ht) hz'
    obtain ⟨_, r⟩ := RdS.reads (.list h1 h2 h3 h4)
    have deep : PyData.depthAll xs < (PyData.list xs).depth := by simp only [PyData.depth]; omega
    refine ⟨a :: bs, ReadAtMost.cons r (Nat.le_of_lt deep) hb, ?_⟩
    simp only [PyData.depth, PyData.shown]
    obtain ⟨l⟩ := vs
    cases l with
    | nil =>
      have h4' : RdSAll h₀ [] xs := h4
      cases h4'
      simp only [PyData.shownAll, listText_nil]
      exact ReprK.listEmpty h1 h2 h3
    | cons x l =>
      exact ReprK.list h1 h2 h3 (not_mem_of_deeper r deep hb) (by simpa using hk.length_eq) fun i y e => hk.item i y (by simpa using e)
  | _, _, .tuple (a := a) (xs := xs) h1 h2 h3 h4, hs, hz => by
    have hz' : (tupleText (PyData.shownAll xs)).length ≤ sizeLine := by simpa only [PyData.shown] using hz
    obtain ⟨bs, hb, hk⟩ := RdSAll.reprK h4 (by simpa [PyData.showable] using hs) fun t ht => Nat.le_trans (tupleText_mem_le ht) hz'
    obtain ⟨_, r⟩ := RdS.reads (.tuple h1 h2 h3 h4)
    have deep : PyData.depthAll xs < (PyData.tuple xs).depth := by simp only [PyData.depth]; omega
    refine ⟨a :: bs, ReadAtMost.cons r (Nat.le_of_lt deep) hb, ?_⟩
    simp only [PyData.depth, PyData.shown]
    exact ReprK.tuple h1 h2 h3 (not_mem_of_deeper r deep hb) hk
  | _, _, .dict (a := a) (es := es) (kvs := kvs) h1 h2 h3 hsys h4 h5, hs, hz => by
    have hz' : (dictText (PyData.shownKv kvs)).length ≤ sizeLine := by simpa only [PyData.shown] using hz
    obtain ⟨hs1, hs2⟩ := PyData.showableKv_split kvs (by simpa [PyData.showable] using hs)
    have le_key : ∀ t ∈ PyData.shownAll (kvs.map (·.1)), t.length ≤ sizeLine := fun t ht => by
      obtain ⟨p, hp, hl⟩ := PyData.shownKv_key_le kvs t ht
      exact Nat.le_trans hl (Nat.le_trans (dictText_mem_le hp) hz')
    have le_val : ∀ t ∈ PyData.shownAll (kvs.map (·.2)), t.length ≤ sizeLine := fun t ht => by
      obtain ⟨p, hp, hl⟩ := PyData.shownKv_val_le kvs t ht
      exact Nat.le_trans hl (Nat.le_trans (dictText_mem_le hp) hz')
    obtain ⟨b1, hb1, k1⟩ := RdSAll.reprK h4 hs1 le_key
    obtain ⟨b2, hb2, k2⟩ := RdSAll.reprK h5 hs2 le_val
    obtain ⟨_, r⟩ := RdS.reads (.dict h1 h2 h3 hsys h4 h5)
    have hb : ReadAtMost h₀ (PyData.depthKv kvs) (b1 ++ b2) :=
      (hb1.mono (PyData.depthAll_keys_le kvs)).append (hb2.mono (PyData.depthAll_vals_le kvs))
    have deep : PyData.depthKv kvs < (PyData.dict kvs).depth := by simp only [PyData.depth]; omega
    refine ⟨a :: (b1 ++ b2), ReadAtMost.cons r (Nat.le_of_lt deep) hb, ?_⟩
    simp only [PyData.depth, PyData.shown, PyData.shownKv_eq]
    refine ReprK.dict h1 h2 h3 hsys (not_mem_of_deeper r deep hb) (ReprEntriesK.of_two es.toList _ _ ?_ ?_)
    · exact k1.more_le (fun b hb => List.mem_append_left _ hb) (PyData.depthAll_keys_le kvs)
    · exact k2.more_le (fun b hb => List.mem_append_right _ hb) (PyData.depthAll_vals_le kvs)
theorem RdSAll.reprK : ∀ {vs : List Value} {ds : List PyData}, RdSAll h₀ vs ds → PyData.showableAll ds = true → (∀ t ∈ PyData.shownAll ds, t.length ≤ sizeLine) →
    ∃ bs, ReadAtMost h₀ (PyData.depthAll ds) bs ∧ ReprAllK prog w bs h₀ (PyData.depthAll ds) vs (PyData.shownAll ds)
  | _, _, .nil, _, _ => ⟨[], (fun _ h => nomatch h), by simp only [PyData.shownAll]; exact .nil⟩
  | _, _, .cons (d := d) (ds := ds) r rs, hs, hz => by
    have hs' : d.showable = true ∧ PyData.showableAll ds = true := by simpa [PyData.showableAll] using hs
    obtain ⟨b1, hb1, k1⟩ := RdS.reprK r hs'.1 (hz _ (by simp only [PyData.shownAll]; exact List.mem_cons_self ..))
    obtain ⟨b2, hb2, k2⟩ := RdSAll.reprK rs hs'.2 fun t ht => hz t (by simp only [PyData.shownAll]; exact List.mem_cons_of_mem _ ht)
    have l1 : d.depth ≤ PyData.depthAll (d :: ds) := by simp only [PyData.depthAll]; exact Nat.le_max_left _ _
    have l2 : PyData.depthAll ds ≤ PyData.depthAll (d :: ds) := by simp only [PyData.depthAll]; exact Nat.le_max_right _ _
    refine ⟨b1 ++ b2, (hb1.mono l1).append (hb2.mono l2), ?_⟩
    simp only [PyData.shownAll]
    exact .cons ((k1.more fun b hb => List.mem_append_left _ hb).level_le l1) (k2.more_le (fun b hb => List.mem_append_right _ hb) l2)
end

/-- repr of a list that is read so -/
theorem repr_list {a : Addr} {xs : List PyData} {A : Around} {E : Value → Shared → Prop} {s : Shared} {Q : Value → Shared → Prop}
    (r : RdS s.heap (.ref a) (.list xs)) (hs : PyData.showableAll xs = true) (hz : (PyData.list xs).shown.length ≤ sizeLine)
    (hg : A.guards = some []) (hu : A.units + ((PyData.list xs).depth + 1) < cLine)
    (hQ : ∀ h' u tk, (∀ b o, s.heap.get? b = some o → h'.get? b = some o) → Q (.str (PyData.list xs).shown u) { s with heap := h', toks := tk }) :
    wpAny (model prog w) A (call (.builtin "repr") [.ref a]) Q E s := by
  have deep : PyData.depthAll xs < (PyData.list xs).depth := by simp only [PyData.depth]; omega
  obtain ⟨_, rr⟩ := r.reads
  cases r with
  | list h1 h2 h3 h4 =>
    rename_i o vs n
    have hz' : (listText (PyData.shownAll xs)).length ≤ sizeLine := by simpa only [PyData.shown] using hz
    obtain ⟨bs, hb, hk⟩ := RdSAll.reprK (prog := prog) (w := w) h4 hs fun t ht => Nat.le_trans (listText_mem_le ht) hz'
    simp only [PyData.depth] at hu
    simp only [PyData.shown] at hQ
    refine call_repr_slot (by omega) ⟨o, h1, h2⟩ F.slot_list_repr.toG ?_
    obtain ⟨l⟩ := vs
    cases l with
    | nil =>
      have h4' : RdSAll s.heap [] xs := h4
      cases h4'
      simp only [PyData.shownAll, listText_nil] at hQ
      exact call_list_repr_empty ⟨o, h1, h2⟩ h1 h3 ⟨_, _, rfl, hQ s.heap _ _ fun _ _ e => e⟩
    | cons x l =>
      exact call_list_reprK h1 h2 h3 (not_mem_of_deeper rr deep hb) (by simpa using hk.length_eq) (fun i y e => hk.item i y (by simpa using e))
        hg (fun b _ => Clear.nil b) (by show A.units + 1 + (PyData.depthAll xs + 1) < cLine; omega) (fun _ _ e => e)
        (fun h' u tk hk => ⟨_, _, rfl, hQ h' u tk hk⟩) hz'
end

section
variable {X : Cx} {pins : List (Addr × Obj)} {σ : L2.St} {H : Hp} {s : Shared} {W : Addr → Prop}
theorem keyD_reads {h : Heap} {k : Key} {v : Value} (e : keyIs k v = true) : RdS h v (keyD k) := by
  rcases keyIs_shape e with ⟨i, t, rfl, rfl⟩ | ⟨x, t, rfl, rfl⟩
  · exact .int i t
  · exact .str x t
theorem keys_read {h : Heap} {P : Program} {w : World} : ∀ {es : List DictEntry} {kvs : List (Key × Value)}, PySem.Pairs (mixKind P w) es kvs →
    RdSAll h (es.map (·.key)) (kvs.map fun kv => keyD kv.1)
  | _, _, .nil => .nil
  | _, _, .cons h1 _ r => .cons (keyD_reads h1) (keys_read r)
theorem vals_read {P : Program} {w : World} : ∀ {es : List DictEntry} {kvs : List (Key × Value)}, PySem.Pairs (mixKind P w) es kvs →
    es.map (·.val) = kvs.map (·.2)
  | _, _, .nil => rfl
  | _, _, .cons _ h2 r => by rw [List.map_cons, List.map_cons, h2, vals_read r]
theorem KV.keys {α : Type} (f : Key → α) : ∀ {kvs : List (Key × V)} {vs : List (Key × Value)}, KV kvs vs → vs.map (fun kv => f kv.1) = kvs.map fun kv => f kv.1
  | _, _, .nil => rfl
  | _, _, .cons h r => by rw [List.map_cons, List.map_cons, h.1, KV.keys f r]
theorem KV.vals : ∀ {kvs : List (Key × V)} {vs : List (Key × Value)}, KV kvs vs → Vals (kvs.map (·.2)) (vs.map (·.2))
  | _, _, .nil => .nil
  | _, _, .cons h r => .cons h.2 (KV.vals r)
theorem zip_fst {α β : Type} : ∀ {l : List α} {m : List β}, l.length = m.length → (l.zip m).map (·.1) = l
  | [], _, _ => by simp
  | a :: l, [], h => by simp at h
  | a :: l, b :: m, h => by
    rw [List.zip_cons_cons, List.map_cons, zip_fst (Nat.succ.inj h)]
theorem zip_snd {α β : Type} : ∀ {l : List α} {m : List β}, l.length = m.length → (l.zip m).map (·.2) = m
  | [], [], _ => rfl
  | [], _ :: _, h => by simp at h
  | a :: l, [], h => by simp at h
  | a :: l, b :: m, h => by
    rw [List.zip_cons_cons, List.map_cons, zip_snd (Nat.succ.inj h)]

mutual
theorem Dq.rds (I : Inv X pins σ H s) : ∀ {v : V} {d : PyData} (u : Value), Dq W H v d → RelV v u → RdS s.heap u d
  | _, _, _, .non, r => by cases r; exact .none
  | _, _, _, .bl b, r => by cases r; exact .bool b
  | _, _, _, .int i, r => by obtain ⟨t, rfl⟩ := r; exact .int i t
  | _, _, _, .str x, r => by obtain ⟨t, rfl⟩ := r; exact .str x t
  | _, _, _, .lst (a := a) (xs := xs) _ e h, r => by
    cases r
    obtain ⟨_, its, n, rv, ho⟩ := (show ObjOk X.prog X.w H s.heap a (.lst xs) from I.hok a _ e)
    exact .list ho rfl rfl (DqAll.rds I its h rv)
  | _, _, _, .tup (a := a) (xs := xs) _ e h, r => by
    cases r
    obtain ⟨_, its, rv, o, ho, hc, n, hd⟩ := (show ObjOk X.prog X.w H s.heap a (.tup xs) from I.hok a _ e)
    exact .tuple ho hc hd (DqAll.rds I its h rv)
  | _, _, _, .dct (a := a) (kvs := kvs) (ds := ds) _ e h, r => by
    cases r
    obtain ⟨_, hsys, vs, kv, o, es, ep, ho, hx, hd, _, hp, _⟩ := dk_of I.hok e
    have hl : (kvs.map fun kv => keyD kv.1).length = ds.length := by
      have := h.length
      rw [List.length_map] at this ⊢
      exact this
    refine .dict ho hx.1 hd hsys ?_ ?_
    · rw [zip_fst hl, ← KV.keys keyD kv]
      exact keys_read hp
    · rw [zip_snd hl, vals_read hp]
      exact DqAll.rds I _ h (KV.vals kv)
theorem DqAll.rds (I : Inv X pins σ H s) : ∀ {vs : List V} {ds : List PyData} (us : List Value), DqAll W H vs ds → Vals vs us → RdSAll s.heap us ds
  | _, _, _, .nil, r => by cases r; exact .nil
  | _, _, _, .cons h t, r => by
    cases r with
    | cons r1 r2 => exact .cons (Dq.rds I _ h r1) (DqAll.rds I _ t r2)
end

/-- repr(xs), xs a list of data -/
def rRepr : List V → Hp → VK → Prop := fun vs H Q => ∃ (W : Addr → Prop) (v : V) (xs : List PyData), vs = [v] ∧ Dq W H v (.list xs) ∧ PyData.showableAll xs = true ∧
  (PyData.list xs).shown.length ≤ sizeLine ∧ (PyData.list xs).depth ≤ 60 ∧ Q (.str (PyData.list xs).shown) H
theorem call_repr {k : Nat} (hG : X.A.guards = some []) (hr : Room k X.A) : CallR X (.builtin "repr") rRepr := by
  intro pins s σ H xs us Q I r h
  obtain ⟨W, v, ds, rfl, hd, hs, hz, hdp, q⟩ := h
  obtain ⟨u, rfl, ru⟩ := Vals.one r
  have hu := hr.units
  cases hd with
  | lst n e h =>
    have rr := Dq.rds I u (.lst n e h) ru
    obtain rfl : u = _ := ru
    exact repr_list rr hs hz hG (by omega) fun h' t tk hk => ⟨.str _, H, I.kept (t' := tk) hk, ⟨t, rfl⟩, q⟩
end
end Bw
/-! Part 5. Small words: sizes, heaps, displays as data, what is printed, fractions as rational numbers. -/
namespace Bw
open PySem PySem.Spec PyProof.Rows L2
theorem sz63 {n : Nat} (h : n ≤ 1000) : n ≤ sizeLine := Nat.le_trans h (by decide)
theorem sz63' {n : Nat} (h : n ≤ 1000) : n < sizeLine := Nat.lt_of_le_of_lt h (by decide)

/-- a def as it stands behind the top, with its promise -/
structure Df (P : Program) (w : World) (K : PySem.W.Frag) (mg : Str → Option Value) (base : Heap) (k : Nat) (x : Str) (ps : List Str) (sp : Sp) where
  f : Addr
  fd : FuncData
  g : mg x = some (.ref f)
  kp : PySem.W.keepIn K (.ref f) = true
  b : Binds K fd ps []
  G : FnOk P w K mg base CX0 k f fd ps sp
/-- a def that is run where no printing is under way -/
structure Dg (P : Program) (w : World) (K : PySem.W.Frag) (mg : Str → Option Value) (base : Heap) (k : Nat) (x : Str) (ps : List Str) (sp : Sp) where
  f : Addr
  fd : FuncData
  g : mg x = some (.ref f)
  kp : PySem.W.keepIn K (.ref f) = true
  b : Binds K fd ps []
  G : FnG P w K mg base k f fd ps sp
theorem map_at {ns : List Int} {i : Nat} {x : V} (h : (ns.map V.int)[i]? = some x) : ∃ z, ns[i]? = some z ∧ x = .int z := by
  rw [List.getElem?_map] at h
  cases e : ns[i]? with
  | none =>
    rw [e] at h
    cases h
  | some z =>
    rw [e] at h
    exact ⟨z, rfl, (Option.some.inj h).symm⟩
theorem same_new {H : Hp} {p : Addr} {o : HO} (h : H p = none) : Same H (upd H p o) := fun b x e => by
  rw [upd_ne (ne_of_none e h)]
  exact e
theorem same_mut {H H' : Hp} {p : Addr} {o : HO} (s : Same H H') (h : H p = none) : Same H (upd H' p o) := fun b x e => by
  rw [upd_ne (ne_of_none e h)]
  exact s b x e

/-! ### what a display gives, as data: all of it new -/
abbrev Old (H : Hp) : Addr → Prop := fun a => H a ≠ none
theorem Old.same {H H' : Hp} (s : Same H H') : ∀ a, Old H a → Old H' a := fun a h z => by
  cases e : H a with
  | none => exact h e
  | some o =>
    rw [s a o e] at z
    cases z
def EvD (te : TE) (σ : L2.St) (d : PyData) : Prop := ∀ (H : Hp) (Q : VK), (∀ v H', Same H H' → Dq (Old H) H' v d → Q v H') → te σ H Q
def EvDs (ta : TA) (σ : L2.St) (ds : List PyData) : Prop := ∀ (H : Hp) (Q : List V → Hp → Prop), (∀ vs H', Same H H' → DqAll (Old H) H' vs ds → Q vs H') → ta σ H Q
section
variable {σ : L2.St}
theorem evd_non : EvD (tC .non) σ .none := fun H Q q => q _ H (.refl H) .non
theorem evd_bl {b : Bool} : EvD (tC (.bl b)) σ (.bool b) := fun H Q q => q _ H (.refl H) (.bl b)
theorem evd_int {i : Int} : EvD (tC (.int i)) σ (.int i) := fun H Q q => q _ H (.refl H) (.int i)
theorem evd_str {x : Str} : EvD (tC (.str x)) σ (.str x) := fun H Q q => q _ H (.refl H) (.str x)
theorem evd_neg {i : Int} : EvD (tUn (rU fun i => .int (-i)) (tC (.int i))) σ (.int (-i)) := fun H Q q => ⟨i, rfl, q _ H (.refl H) (.int (-i))⟩
theorem evd_var {j : Nat} {i : Int} (h : σ[j]? = some (some (.int i))) : EvD (tVar j) σ (.int i) := fun H Q q => ⟨_, h, q _ H (.refl H) (.int i)⟩
theorem evd_minus {j : Nat} {i : Int} (h : σ[j]? = some (some (.int i))) : EvD (tOp (rI0 fun i j => .int (i - j)) (tC (.int 0)) (tVar j)) σ (.int (0 - i)) :=
  fun H Q q => ⟨_, h, 0, i, rfl, rfl, q _ H (.refl H) (.int (0 - i))⟩
theorem evds_nil : EvDs tNil σ [] := fun H Q q => q _ H (.refl H) .nil
theorem evds_cons {te : TE} {ta : TA} {d : PyData} {ds : List PyData} (h : EvD te σ d) (t : EvDs ta σ ds) : EvDs (tCons te ta) σ (d :: ds) := fun H Q q =>
  h H _ fun v H1 s1 e1 => t H1 _ fun vs H2 s2 e2 => q _ H2 (s1.trans s2) (.cons (e1.keep (Kp.same s2)) (e2.weak (Old.same s1)))
theorem new_old {H H1 : Hp} {p : Addr} (s : Same H H1) (hp : H1 p = none) : ¬ Old H p := fun z => z (s.free hp)
theorem evd_tup {ta : TA} {ds : List PyData} (h : EvDs ta σ ds) (hl : ds.length ≤ 1000) : EvD (tTup ta) σ (.tuple ds) := fun H Q q =>
  h H _ fun vs H1 s1 e1 => ⟨sz63 (by rw [e1.length]; exact hl), fun p hp =>
    q _ _ (s1.trans (same_new hp)) (.tup (new_old s1 hp) upd_same (e1.keep (Kp.new hp)))⟩
theorem evd_lst {ta : TA} {ds : List PyData} (h : EvDs ta σ ds) (hl : ds.length ≤ 1000) : EvD (tLst ta) σ (.list ds) := fun H Q q =>
  h H _ fun vs H1 s1 e1 => ⟨sz63 (by rw [e1.length]; exact hl), fun p hp =>
    q _ _ (s1.trans (same_new hp)) (.lst (new_old s1 hp) upd_same (e1.keep (Kp.new hp)))⟩
theorem evd_dnew : EvD tDNewK σ (.dict []) := fun H Q q => fun p hp => q _ _ (same_new hp) (.dct (kvs := []) (fun z => z hp) upd_same .nil)
/-- {k: e}, one written key -/
theorem evd_dict1 {k : Key} {te : TE} {d : PyData} (h : EvD te σ d) : EvD (tDisp [(tC (kV k), te)]) σ (.dict [(keyD k, d)]) := fun H Q q => fun p hp => by
  refine h _ _ fun v H1 s1 e1 => ?_
  have ep : H1 p = some (.dK []) := s1 _ _ upd_same
  refine ⟨ep, [(k, v)], rfl, (by show 1 ≤ 15; decide), ?_⟩
  have s2 : Same H (upd H1 p (.dK [(k, v)])) := same_mut ((same_new hp).trans s1) hp
  refine q _ _ s2 (.dct (kvs := [(k, v)]) (fun z => z hp) upd_same (.cons ?_ .nil))
  have e2 : Dq (Old (upd H p (.dK []))) (upd H1 p (.dK [(k, v)])) v d := e1.keep (Kp.mut (by
    show upd H p (.dK []) p ≠ none
    rw [upd_same]
    exact fun z => nomatch z))
  exact e2.weak (Old.same (same_new hp))
end

/-! ### lengths of what is printed -/
theorem from_len : ∀ (ts : List Str) (k : Nat) (acc : Str), (textFrom k acc ts).length ≤ acc.length + piled ts
  | [], k, acc => by
    show acc.length ≤ _
    rw [piled_nil]
    omega
  | t :: ts, k, acc => by
    show (textFrom (k + 1) (acc ++ (if k > 0 then ", " else "" : String) ++ t) ts).length ≤ _
    have h := from_len ts (k + 1) (acc ++ (if k > 0 then ", " else "" : String) ++ t)
    have e : (((if k > 0 then ", " else "" : String) : Str)).length ≤ 2 := by split <;> decide +kernel
    rw [strLen_append, strLen_append] at h
    rw [piled_cons]
    omega
theorem list_len (ts : List Str) : (listText ts).length ≤ 2 + piled ts := by
  have h := from_len ts 0 "["
  have e : (("[" : String) : Str).length = 1 := by decide +kernel
  have e2 : (("]" : String) : Str).length = 1 := by decide +kernel
  unfold listText
  rw [strLen_append]
  omega
theorem piled_le {n : Nat} : ∀ {ts : List Str}, (∀ t ∈ ts, t.length ≤ n) → piled ts ≤ (n + 2) * ts.length
  | [], _ => by rw [piled_nil]; omega
  | t :: ts, h => by
    have h1 := h t List.mem_cons_self
    have h2 := piled_le (n := n) (ts := ts) fun x hx => h x (List.mem_cons_of_mem _ hx)
    rw [piled_cons, List.length_cons, Nat.mul_succ]
    omega
theorem shownAll_map : ∀ ds : List PyData, PyData.shownAll ds = ds.map PyData.shown
  | [] => by simp [PyData.shownAll]
  | d :: ds => by simp [PyData.shownAll, shownAll_map ds]
theorem shown_list_le {n m : Nat} {ds : List PyData} (h : ∀ d ∈ ds, d.shown.length ≤ n) (hl : ds.length ≤ m) : (PyData.list ds).shown.length ≤ 2 + (n + 2) * m := by
  simp only [PyData.shown]
  have h1 := list_len (PyData.shownAll ds)
  have h2 : piled (PyData.shownAll ds) ≤ (n + 2) * (PyData.shownAll ds).length := piled_le fun t ht => by
    rw [shownAll_map] at ht
    obtain ⟨d, hd, rfl⟩ := List.mem_map.mp ht
    exact h d hd
  have h3 : (PyData.shownAll ds).length = ds.length := by rw [shownAll_map, List.length_map]
  rw [h3] at h2
  have h4 : (n + 2) * ds.length ≤ (n + 2) * m := Nat.mul_le_mul_left _ hl
  omega
theorem showAll_of : ∀ {ds : List PyData}, (∀ d ∈ ds, d.showable = true) → PyData.showableAll ds = true
  | [], _ => by simp [PyData.showableAll]
  | d :: ds, h => by
    simp only [PyData.showableAll, Bool.and_eq_true]
    exact ⟨h d List.mem_cons_self, showAll_of fun x hx => h x (List.mem_cons_of_mem _ hx)⟩
theorem depthAll_le {n : Nat} : ∀ {ds : List PyData}, (∀ d ∈ ds, d.depth ≤ n) → PyData.depthAll ds ≤ n
  | [], _ => by simp [PyData.depthAll]
  | d :: ds, h => by
    simp only [PyData.depthAll]
    have h1 := h d List.mem_cons_self
    have h2 := depthAll_le (n := n) (ds := ds) fun x hx => h x (List.mem_cons_of_mem _ hx)
    omega
theorem repr_parts {ds : List PyData} {n : Nat} (h : ∀ d ∈ ds, d.showable = true ∧ d.shown.length ≤ n ∧ d.depth ≤ 9) (hn : n ≤ 100000) (hl : ds.length ≤ 100) :
    PyData.showableAll ds = true ∧ (PyData.list ds).shown.length ≤ sizeLine ∧ (PyData.list ds).depth ≤ 60 := by
  refine ⟨showAll_of fun d m => (h d m).1, ?_, ?_⟩
  · have h1 := shown_list_le (m := 100) (fun d m => (h d m).2.1) hl
    rw [sizeLine_eq]
    have h2 : (n + 2) * 100 ≤ 100002 * 100 := Nat.mul_le_mul_right _ (by omega)
    omega
  · simp only [PyData.depth]
    have h1 := depthAll_le (n := 9) fun d m => (h d m).2.2
    omega
theorem bools_ok : ∀ bs : List Bool, ∀ d ∈ bs.map PyData.bool, d.showable = true ∧ d.shown.length ≤ 5 ∧ d.depth ≤ 9 := fun bs d hd => by
  obtain ⟨b, _, rfl⟩ := List.mem_map.mp hd
  cases b
  · exact ⟨by decide +kernel, by decide +kernel, by decide +kernel⟩
  · exact ⟨by decide +kernel, by decide +kernel, by decide +kernel⟩
theorem rep_ok {d : PyData} {n : Nat} (h : d.showable = true ∧ d.shown.length ≤ n ∧ d.depth ≤ 9) (k : Nat) : ∀ x ∈ List.replicate k d, x.showable = true ∧ x.shown.length ≤ n ∧ x.depth ≤ 9 := fun x hx => by
  rw [List.eq_of_mem_replicate hx]
  exact h

/-! ### a comprehension that gives the same thing at each turn -/
mutual
theorem dq_live {W : Addr → Prop} {H : Hp} {D : Addr} (n : H D = none) : ∀ {v : V} {d : PyData}, Dq W H v d → Dq (fun a => W a ∨ a = D) H v d
  | _, _, .non => .non
  | _, _, .bl b => .bl b
  | _, _, .int i => .int i
  | _, _, .str x => .str x
  | _, _, .lst w e h => .lst (fun z => z.elim w fun q => by rw [q, n] at e; cases e) e (dqAll_live n h)
  | _, _, .tup w e h => .tup (fun z => z.elim w fun q => by rw [q, n] at e; cases e) e (dqAll_live n h)
  | _, _, .dct w e h => .dct (fun z => z.elim w fun q => by rw [q, n] at e; cases e) e (dqAll_live n h)
theorem dqAll_live {W : Addr → Prop} {H : Hp} {D : Addr} (n : H D = none) : ∀ {vs : List V} {ds : List PyData}, DqAll W H vs ds → DqAll (fun a => W a ∨ a = D) H vs ds
  | _, _, .nil => .nil
  | _, _, .cons h t => .cons (dq_live n h) (dqAll_live n t)
end
theorem rep_snoc {α : Type} (d : α) : ∀ n : Nat, List.replicate (n + 1) d = List.replicate n d ++ [d] := fun n => List.replicate_succ'
theorem const_lc {W : Addr → Prop} {H1 : Hp} {D c : Addr} {bs : List Addr} {d : PyData} {te : TE} {σ : L2.St} {vs : List Nat} {K : PySem.W.Frag} {Qd : Hp → Prop} {j : Nat}
    (nD : H1 D = none) (hc : H1 c = some (.lst (bs.map V.ref))) (hb : bs.length ≤ 100)
    (hw : ∀ x, wipe ((wipe σ vs).set j (some x)) vs = wipe σ vs)
    (turn : ∀ b ∈ bs, ∀ (H : Hp) (Q : VK), Same H1 H → H D ≠ none → (∀ y H', Same H H' → Dq (fun a => W a ∨ a = D) H' y d → Q y H') → te ((wipe σ vs).set j (some (.ref b))) H Q)
    (done : ∀ H acc, Same H1 H → H D = some (.lst acc) → DqAll (fun a => W a ∨ a = D) H acc (List.replicate bs.length d) → Qd H) :
    ∃ W : Nat → Nat → Hp → Prop, (∃ m, W 0 m (upd H1 D (.lst []))) ∧ ∀ i m H, W i m H →
      ((Itl K c).stop i H ∧ Qd H) ∨ ((Itl K c).go i H ∧ ∃ Nx : Hp → Prop, (∀ H', Nx H' → ∃ m', m' < m ∧ W (i + 1) m' H') ∧ ∀ x H', (Itl K c).yld i H x H' → gName j x (wipe σ vs) H' fun σ2 H2 => wipe σ2 vs = wipe σ vs ∧ tYes σ2 H2 fun b H3 =>
        if b = true then te σ2 H3 fun y H4 => ∃ acc, H4 D = some (.lst acc) ∧ acc.length < sizeLine ∧ Nx (upd H4 D (.lst (acc ++ [y]))) else Nx H3) := by
  have s0 : Same H1 (upd H1 D (.lst [])) := same_new nD
  refine lc_list (K := K) (a := c) (xs := bs.map V.ref) (fun i H => ∃ acc, Same H1 H ∧ H D = some (.lst acc) ∧ DqAll (fun a => W a ∨ a = D) H acc (List.replicate i d)) ⟨[], s0, upd_same, .nil⟩
    (fun i H _ ⟨_, s, _⟩ => .inl (.inl (s _ _ hc))) ?_ (fun H ⟨acc, s, e, q⟩ => done H acc s e (by rw [List.length_map] at q; exact q))
  rintro i x H hi ⟨acc, s, e, q⟩
  rw [List.getElem?_map] at hi
  have hil : i < bs.length := by
    cases z : bs[i]? with
    | none =>
      rw [z] at hi
      cases hi
    | some b => exact (List.getElem?_eq_some_iff.mp z).1
  obtain ⟨b, hbm, rfl⟩ : ∃ b ∈ bs, x = .ref b := by
    rw [List.getElem?_eq_getElem hil] at hi
    exact ⟨bs[i], List.getElem_mem _, (Option.some.inj hi).symm⟩
  refine ⟨hw _, ?_⟩
  unfold tYes
  dsimp only
  rw [if_pos rfl]
  refine turn b hbm H _ s (by rw [e]; exact fun z => nomatch z) fun y H' s' dy => ⟨acc, s' _ _ e, sz63' (by have := q.length; rw [List.length_replicate] at this; omega), acc ++ [y], ?_, upd_same, ?_⟩
  · exact same_mut (s.trans s') nD
  · have kD : Kp (fun a => W a ∨ a = D) H' (upd H' D (.lst (acc ++ [y]))) := Kp.mut (.inr rfl)
    rw [rep_snoc]
    exact ((q.keep (Kp.same s')).keep kD).app (.cons (dy.keep kD) .nil)

end Bw
/-! Part 6. Fractions in lowest terms as rational numbers, their sizes. Plain mathematics. -/
namespace Bq
theorem q_num {a b : Int} (hb : 0 < b) : (Rat.divInt a b).num = a / ((Nat.gcd a.natAbs b.natAbs : Nat) : Int) := by
  rw [Rat.num_divInt, Int.sign_eq_one_of_pos hb, Int.one_mul]
  have : b.gcd a = Nat.gcd a.natAbs b.natAbs := Nat.gcd_comm _ _
  rw [this]
theorem q_den {a b : Int} (hb : 0 < b) : ((Rat.divInt a b).den : Int) = b / ((Nat.gcd a.natAbs b.natAbs : Nat) : Int) := by
  rw [Rat.den_divInt, if_neg (by omega)]
  have : b.gcd a = Nat.gcd a.natAbs b.natAbs := Nat.gcd_comm _ _
  rw [this]
  have h : (b.natAbs : Int) = b := by omega
  rw [Int.natCast_ediv, h]
theorem den_pos (q : Rat) : (0 : Int) < q.den := by
  have := q.den_nz
  omega
theorem num_over (q : Rat) : Rat.divInt q.num q.den = q := Rat.num_divInt_den q
theorem q_add (p q : Rat) : Rat.divInt (p.num * q.den + q.num * p.den) (p.den * q.den) = p + q := by
  have h1 := den_pos p
  have h2 := den_pos q
  have := Rat.divInt_add_divInt p.num q.num (d₁ := p.den) (d₂ := q.den) (by omega) (by omega)
  rw [num_over, num_over] at this
  exact this.symm
theorem q_sub (p q : Rat) : Rat.divInt (p.num * q.den - q.num * p.den) (p.den * q.den) = p - q := by
  have h1 := den_pos p
  have h2 := den_pos q
  have := Rat.divInt_sub_divInt p.num q.num (d₁ := p.den) (d₂ := q.den) (by omega) (by omega)
  rw [num_over, num_over] at this
  exact this.symm
theorem q_mul (p q : Rat) : Rat.divInt (p.num * q.num) (p.den * q.den) = p * q := by
  have := Rat.divInt_mul_divInt p.num q.num (d₁ := p.den) (d₂ := q.den)
  rw [num_over, num_over] at this
  exact this.symm
theorem q_div (p q : Rat) : Rat.divInt (p.num * q.den) (p.den * q.num) = p / q := by
  have := Rat.divInt_mul_divInt p.num q.den (d₁ := p.den) (d₂ := q.num)
  rw [num_over, ← Rat.inv_divInt, num_over] at this
  rw [Rat.div_def]
  exact this.symm
theorem num_pos {q : Rat} : 0 < q.num ↔ 0 < q := by
  have h := Rat.num_nonneg (q := q)
  have e := Rat.num_eq_zero (q := q)
  constructor
  · intro k
    have a := h.mp (by omega)
    have b : q ≠ 0 := fun g => by have := e.mpr g; omega
    grind
  · intro k
    have a := h.mpr (by grind)
    have b : q.num ≠ 0 := fun g => by have := e.mp g; grind
    omega
theorem num_nonneg {q : Rat} : 0 ≤ q.num ↔ 0 ≤ q := Rat.num_nonneg

/-! ### sizes -/
/-- both parts below 2 ^ n -/
def Sz (n : Nat) (q : Rat) : Prop := q.num.natAbs < 2 ^ n ∧ q.den < 2 ^ n
theorem Sz.mono {m n : Nat} {q : Rat} (h : Sz m q) (l : m ≤ n) : Sz n q :=
  ⟨Nat.lt_of_lt_of_le h.1 (Nat.pow_le_pow_right (by decide) l), Nat.lt_of_lt_of_le h.2 (Nat.pow_le_pow_right (by decide) l)⟩
theorem sz_div {a b : Int} {n : Nat} (hb : 0 < b) (ha : a.natAbs < 2 ^ n) (hb2 : b.natAbs < 2 ^ n) : Sz n (Rat.divInt a b) := by
  constructor
  · rw [q_num hb]
    refine Nat.lt_of_le_of_lt ?_ ha
    rw [Int.natAbs_ediv_of_dvd]
    · exact Nat.div_le_self _ _
    · exact Int.dvd_natAbs.mp (Int.natCast_dvd_natCast.mpr (Nat.gcd_dvd_left _ _))
  · have h : (Rat.divInt a b).den = b.natAbs / Nat.gcd a.natAbs b.natAbs := by
      rw [Rat.den_divInt, if_neg (by omega)]
      have : b.gcd a = Nat.gcd a.natAbs b.natAbs := Nat.gcd_comm _ _
      rw [this]
    rw [h]
    exact Nat.lt_of_le_of_lt (Nat.div_le_self _ _) hb2
theorem mul_lt {x y : Int} {m n : Nat} (h : x.natAbs < 2 ^ m) (k : y.natAbs < 2 ^ n) : (x * y).natAbs < 2 ^ (m + n) := by
  rw [Int.natAbs_mul, Nat.pow_add]
  exact Nat.mul_lt_mul'' h k
theorem add_lt {x y : Int} {n : Nat} (h : x.natAbs < 2 ^ n) (k : y.natAbs < 2 ^ n) : (x + y).natAbs < 2 ^ (n + 1) := by
  have := Int.natAbs_add_le x y
  rw [Nat.pow_succ]
  omega
theorem sub_lt {x y : Int} {n : Nat} (h : x.natAbs < 2 ^ n) (k : y.natAbs < 2 ^ n) : (x - y).natAbs < 2 ^ (n + 1) := by
  have := Int.natAbs_sub_le x y
  rw [Nat.pow_succ]
  omega
theorem den_abs {n : Nat} {q : Rat} (h : Sz n q) : ((q.den : Int)).natAbs < 2 ^ n := h.2
theorem up (m : Nat) {n k : Nat} (h : k < 2 ^ m) (l : m ≤ n) : k < 2 ^ n := Nat.lt_of_lt_of_le h (Nat.pow_le_pow_right (by decide) l)
theorem add_num {m n : Nat} {p q : Rat} (hp : Sz m p) (hq : Sz n q) : (p.num * q.den + q.num * p.den).natAbs < 2 ^ (m + n + 1) := by
  refine add_lt (mul_lt hp.1 (den_abs hq)) ?_
  rw [Nat.add_comm m n]
  exact mul_lt hq.1 (den_abs hp)
theorem sub_num {m n : Nat} {p q : Rat} (hp : Sz m p) (hq : Sz n q) : (p.num * q.den - q.num * p.den).natAbs < 2 ^ (m + n + 1) := by
  refine sub_lt (mul_lt hp.1 (den_abs hq)) ?_
  rw [Nat.add_comm m n]
  exact mul_lt hq.1 (den_abs hp)
theorem dens {m n : Nat} {p q : Rat} (hp : Sz m p) (hq : Sz n q) : ((p.den : Int) * q.den).natAbs < 2 ^ (m + n) := mul_lt (den_abs hp) (den_abs hq)
theorem dens_pos (p q : Rat) : (0 : Int) < (p.den : Int) * q.den := Int.mul_pos (den_pos p) (den_pos q)
theorem Sz.add {m n : Nat} {p q : Rat} (hp : Sz m p) (hq : Sz n q) : Sz (m + n + 1) (p + q) := by
  rw [← q_add]
  exact sz_div (dens_pos p q) (add_num hp hq) (up _ (dens hp hq) (by omega))
theorem Sz.sub {m n : Nat} {p q : Rat} (hp : Sz m p) (hq : Sz n q) : Sz (m + n + 1) (p - q) := by
  rw [← q_sub]
  exact sz_div (dens_pos p q) (sub_num hp hq) (up _ (dens hp hq) (by omega))
theorem Sz.mul {m n : Nat} {p q : Rat} (hp : Sz m p) (hq : Sz n q) : Sz (m + n) (p * q) := by
  rw [← q_mul]
  exact sz_div (dens_pos p q) (mul_lt hp.1 hq.1) (dens hp hq)
theorem Sz.div {m n : Nat} {p q : Rat} (hp : Sz m p) (hq : Sz n q) (h : 0 < q.num) : Sz (m + n) (p / q) := by
  rw [← q_div]
  exact sz_div (Int.mul_pos (den_pos p) h) (mul_lt hp.1 (den_abs hq)) (mul_lt (den_abs hp) hq.1)

/-! ### a pair of numbers in lowest terms -/
theorem low_iff {a b : Int} (hb : 0 < b) : Nat.gcd a.natAbs b.natAbs = 1 ↔ ∃ q : Rat, a = q.num ∧ b = q.den := by
  constructor
  · intro h
    refine ⟨⟨a, b.natAbs, by omega, h⟩, rfl, ?_⟩
    show b = ((b.natAbs : Nat) : Int)
    omega
  · rintro ⟨q, rfl, rfl⟩
    exact q.reduced
/-- the sum of a row -/
def sumQ : List Rat → Rat
  | [] => 0
  | q :: r => q + sumQ r
/-- .. from the left -/
theorem sum_left : ∀ (l : List Rat) (a : Rat), l.foldl (· + ·) a = a + sumQ l
  | [], a => by simp [sumQ, Rat.add_zero]
  | q :: r, a => by
    rw [List.foldl_cons, sum_left r, sumQ, Rat.add_assoc]
theorem sum_snoc (l : List Rat) (q : Rat) : sumQ (l ++ [q]) = sumQ l + q := by
  induction l with
  | nil => simp [sumQ, Rat.add_zero, Rat.zero_add]
  | cons a r ih => rw [List.cons_append, sumQ, ih, sumQ, Rat.add_assoc]
theorem zero_q : (0 : Rat).num = 0 ∧ (0 : Rat).den = 1 := ⟨rfl, rfl⟩
theorem one_q : (1 : Rat).num = 1 ∧ (1 : Rat).den = 1 := ⟨rfl, rfl⟩
theorem Sz.zero : Sz 1 0 := ⟨by decide, by decide⟩
end Bq
/-! zip of a row of lists, the tuple kept by a name. -/
namespace Bz
open PySem PySem.Spec PyProof.Rows L2
open PySem.Sem (wp)
section
variable {prog : Program} {w : World} {A : Around} {E : Value → Shared → Prop} {s : Shared}

theorem alive {a : Addr} {Q : Option Obj → Shared → Prop} (h : Q (s.heap.get? a) s) : wpAny (model prog w) A (loadIfAlive a) Q E s := fun _ _ _ => h

theorem forIn_by {α β : Type} {body : α → β → Sem (ForInStep β)} {Q : β → Shared → Prop} (I : Nat → β → Shared → Prop) : ∀ (l : List α) (k : Nat) (b : β) (s : Shared), I k b s →
    (∀ j x b s, l[j]? = some x → I (k + j) b s → wpAny (model prog w) A (body x b) (fun r s' => ∃ b', r = .yield b' ∧ I (k + j + 1) b' s') E s) →
    (∀ b s, I (k + l.length) b s → Q b s) → wpAny (model prog w) A (forIn l b body) Q E s
  | [], k, b, s, h0, _, hd => by
    rw [List.forIn_nil]
    exact wpAny_pure (hd b s h0)
  | x :: l, k, b, s, h0, hs, hd => by
    rw [List.forIn_cons]
    refine wpAny_bind (wpAny_mono (hs 0 x b s rfl h0) (fun r s' h => ?_) fun _ _ z => z)
    obtain ⟨b', rfl, h1⟩ := h
    refine forIn_by I l (k + 1) b' s' h1 (fun j x b s e i => ?_) fun b s i => hd b s ?_
    · have e1 : k + 1 + j = k + (j + 1) := by omega
      rw [e1] at i
      rw [show k + 1 + j + 1 = k + (j + 1) + 1 by omega]
      exact hs (j + 1) x b s e i
    · rw [List.length_cons, show k + (l.length + 1) = k + 1 + l.length by omega]
      exact i

/-- an iterator, its list, the list's items -/
structure Rw where
  it : Addr
  l : Addr
  xs : Array Value

structure Apart (z TI TO : Addr) (rs : List Rw) : Prop where
  TIz : TI ≠ z
  TOz : TO ≠ z
  TITO : TI ≠ TO
  itz : ∀ r ∈ rs, r.it ≠ z ∧ r.it ≠ TI ∧ r.it ≠ TO
  nd : ∀ (i j : Nat) (r q : Rw), rs[i]? = some r → rs[j]? = some q → i ≠ j → r.it ≠ q.it
  lz : ∀ r ∈ rs, r.l ≠ z ∧ r.l ≠ TO
  ll : ∀ r ∈ rs, ∀ q ∈ rs, r.l ≠ q.it

abbrev ZipO (h : Heap) (z TI TO : Addr) (f0 : Value) (f : Bool) : Prop :=
  h.get? z = some { cls := .type "zip", dict := none, data := .fields #[f0, .bool f, .bool false, .ref TI, .ref TO], slots := #[] }
abbrev TupO (h : Heap) (T : Addr) (vs : Array Value) : Prop := h.get? T = some { cls := .type "tuple", data := .seq vs }

/-- what its first field may be between two turns -/
def Fld0 (f0 : Value) : Prop := f0 = .none ∨ ∃ T : Addr, f0 = rawInt T

/-- the rows, those before j one item further -/
def Its (h : Heap) (rs : List Rw) (k j : Nat) : Prop := ∀ m r, rs[m]? = some r → h.IsListIter r.it r.l (if m < j then k + 1 else k) ∧ h.IsList r.l r.xs

theorem owned {z TI TO : Addr} {f0 : Value} {f : Bool} {Q : Bool → Shared → Prop} (hf : Fld0 f0) (hz : ZipO s.heap z TI TO f0 f)
    (h : ∀ h' b f', ZipO h' z TI TO f0 f' → Heap.SameBut z s.heap h' → Q b { s with heap := h' }) : wpAny (model prog w) A (Builtin.SmallTypes.ownedTupleIsFree (.ref z)) Q E s := by
  unfold Builtin.SmallTypes.ownedTupleIsFree
  refine wpAny_bind (wpAny_field hz rfl (x := f0) rfl ?_)
  rcases hf with rfl | ⟨T, rfl⟩
  · exact wpAny_pure (h s.heap true f hz (Heap.SameBut.refl _ _))
  · show wpAny _ _ (loadIfAlive ((T : Int).toNat) >>= _) _ _ _
    rw [Int.toNat_natCast]
    refine wpAny_bind (alive ?_)
    cases e : s.heap.get? T with
    | none =>
      simp only [Option.isNone_none, if_true]
      exact wpAny_pure (h s.heap true f hz (Heap.SameBut.refl _ _))
    | some oT =>
      simp only [Option.isNone_some, Bool.false_eq_true, if_false]
      refine wpAny_bind (wpAny_field hz rfl (x := .bool f) rfl ?_)
      cases f with
      | true =>
        rw [if_neg (show ¬ ((Value.bool true != Value.bool true) = true) from Bool.false_ne_true)]
        exact wpAny_pure (h s.heap false true hz (Heap.SameBut.refl _ _))
      | false =>
        rw [if_pos (show (Value.bool false != Value.bool true) = true from rfl)]
        exact wpAny_bind (wpAny_setField_rec hz (by simp) fun h₁ hz₁ hs₁ => wpAny_pure (h h₁ false true hz₁ hs₁))

/-- what a turn leaves as it was -/
def Kept (z TO : Addr) (rs : List Rw) (h h' : Heap) : Prop := h'.objs.size = h.objs.size ∧ ∀ c o, c ≠ z → c ≠ TO → (∀ r ∈ rs, c ≠ r.it) → h.get? c = some o → h'.get? c = some o
theorem Kept.refl (z TO : Addr) (rs : List Rw) (h : Heap) : Kept z TO rs h h := ⟨rfl, fun _ _ _ _ _ e => e⟩
theorem Kept.trans {z TO : Addr} {rs : List Rw} {h h1 h2 : Heap} (a : Kept z TO rs h h1) (b : Kept z TO rs h1 h2) : Kept z TO rs h h2 :=
  ⟨b.1.trans a.1, fun c o x y t e => b.2 c o x y t (a.2 c o x y t e)⟩
theorem Kept.z {z TO : Addr} {rs : List Rw} {h h1 : Heap} (a : Heap.SameBut z h h1) : Kept z TO rs h h1 := ⟨a.1, fun c o x _ _ e => a.extBut _ _ x e⟩
theorem Kept.TO {z TO : Addr} {rs : List Rw} {h h1 : Heap} (a : Heap.SameBut TO h h1) : Kept z TO rs h h1 := ⟨a.1, fun c o _ x _ e => a.extBut _ _ x e⟩
theorem Kept.it {z TO : Addr} {rs : List Rw} {h h1 : Heap} {r : Rw} (m : r ∈ rs) (a : Heap.SameBut r.it h h1) : Kept z TO rs h h1 := ⟨a.1, fun c o _ _ x e => a.extBut _ _ (x r m) e⟩

theorem Its.but {h h1 : Heap} {rs : List Rw} {k j : Nat} {a : Addr} (s : Heap.SameBut a h h1) (n1 : ∀ r ∈ rs, r.it ≠ a) (n2 : ∀ r ∈ rs, r.l ≠ a) (i : Its h rs k j) : Its h1 rs k j := fun m r e =>
  have hm := List.mem_of_getElem? e
  ⟨(i m r e).1.extBut s.extBut (n1 r hm), (i m r e).2.extBut s.extBut (n2 r hm)⟩
theorem Its.next {z TI TO : Addr} {rs : List Rw} (D : Apart z TI TO rs) {h h1 : Heap} {k j : Nat} {r : Rw} (e : rs[j]? = some r) (i : Its h rs k j) (n : h1.IsListIter r.it r.l (k + 1)) (s : Heap.SameBut r.it h h1) : Its h1 rs k (j + 1) := fun m q eq => by
  have hm := List.mem_of_getElem? eq
  have hr := List.mem_of_getElem? e
  refine ⟨?_, (i m q eq).2.extBut s.extBut (D.ll q hm r hr)⟩
  by_cases c : m = j
  · subst c
    rw [e] at eq
    cases eq
    rw [if_pos (Nat.lt_succ_self _)]
    exact n
  · have := (i m q eq).1.extBut s.extBut (D.nd m j q r eq e c)
    by_cases l : m < j
    · rw [if_pos l] at this
      rw [if_pos (by omega)]
      exact this
    · rw [if_neg l] at this
      rw [if_neg (by omega)]
      exact this
theorem Its.done {h : Heap} {rs : List Rw} {k : Nat} (i : Its h rs k rs.length) : Its h rs (k + 1) 0 := fun m r e => by
  have l := (List.getElem?_eq_some_iff.mp e).1
  have := i m r e
  rw [if_pos l] at this
  rw [if_neg (by omega)]
  exact this

/-- the values of the k-th turn -/
def Vs (rs : List Rw) (k : Nat) (vs : List Value) : Prop := vs.length = rs.length ∧ ∀ (m : Nat) (r : Rw), rs[m]? = some r → ∃ v, vs[m]? = some v ∧ r.xs[k]? = some v

theorem map_get {rs : List Rw} {j : Nat} {x : Value} (h : (rs.map fun r => Value.ref r.it)[j]? = some x) : ∃ r, rs[j]? = some r ∧ x = .ref r.it := by
  rw [List.getElem?_map] at h
  cases e : rs[j]? with
  | none =>
    rw [e] at h
    cases h
  | some r =>
    rw [e] at h
    exact ⟨r, rfl, (Option.some.inj h).symm⟩

theorem next_item {z TI TO : Addr} {rs : List Rw} {k : Nat} {f0 : Value} {f : Bool} {to : Array Value} {vs : List Value} {Q : Value → Shared → Prop} (D : Apart z TI TO rs) (hn : 0 < rs.length) (hl : rs.length ≤ 1000) (hf : Fld0 f0)
    (hz : ZipO s.heap z TI TO f0 f) (hTI : TupO s.heap TI (rs.map fun r => Value.ref r.it).toArray) (hTO : TupO s.heap TO to) (hto : to.size = rs.length) (hi : Its s.heap rs k 0) (hv : Vs rs k vs)
    (hQ : ∀ h' f0' f' to', Fld0 f0' → ZipO h' z TI TO f0' f' → TupO h' TI (rs.map fun r => Value.ref r.it).toArray → TupO h' TO to' → to'.size = rs.length → Its h' rs (k + 1) 0 → TupO h' s.heap.objs.size vs.toArray →
      h'.objs.size = s.heap.objs.size + 1 → (∀ c o, c ≠ z → c ≠ TO → (∀ r ∈ rs, c ≠ r.it) → s.heap.get? c = some o → h'.get? c = some o) → Q (.ref s.heap.objs.size) { s with heap := h' }) :
    wpAny (model prog w) A (Builtin.«zip.__next__» ⟨[.ref z], []⟩) (fun fin s' => ∃ v, fin = .done (.ret v) ∧ Q v s') E s := by
  show wpAny _ _ (field (.ref z) 2 >>= _) _ _ _
  refine wpAny_bind (wpAny_field hz rfl (x := .bool false) rfl ?_)
  show wpAny _ _ (field (.ref z) 3 >>= _) _ _ _
  refine wpAny_bind (wpAny_field hz rfl (x := .ref TI) rfl ?_)
  refine wpAny_bind (wpAny_seqItems hTI rfl ?_)
  have ne : (rs.map fun r => Value.ref r.it).toArray.isEmpty = false := by
    cases rs with
    | nil => simp at hn
    | cons r t => rfl
  dsimp only
  rw [ne]
  show wpAny _ _ (Builtin.SmallTypes.ownedTupleIsFree (.ref z) >>= _) _ _ _
  have TIk : ∀ {h h' : Heap}, Kept z TO rs h h' → TupO h TI (rs.map fun r => Value.ref r.it).toArray → TupO h' TI (rs.map fun r => Value.ref r.it).toArray := fun kp e =>
    kp.2 _ _ D.TIz D.TITO (fun r hr => (D.itz r hr).2.1.symm) e
  refine wpAny_bind (owned hf hz fun h1 b f1 hz1 sb1 => ?_)
  have i1 : Its h1 rs k 0 := hi.but sb1 (fun r hr => (D.itz r hr).1) fun r hr => (D.lz r hr).1
  have TO1 : TupO h1 TO to := sb1.extBut _ _ D.TOz hTO
  have K1 : Kept z TO rs s.heap h1 := .z sb1
  have hvl := hv.1
  cases b with
  | true =>
    simp only [if_true]
    refine wpAny_bind (wpAny_rule ?_)
    refine wpAny_bind (wpAny_field (s := { s with heap := h1 }) hz1 rfl (x := .ref TO) rfl ?_)
    refine wpAny_bind (wpAny_setField_rec (s := { s with heap := h1 }) hz1 (by simp) fun h2 hz2 sb2 => ?_)
    replace hz2 : ZipO h2 z TI TO .ellipsis f1 := hz2
    have i2 : Its h2 rs k 0 := i1.but sb2 (fun r hr => (D.itz r hr).1) fun r hr => (D.lz r hr).1
    have K2 : Kept z TO rs s.heap h2 := K1.trans (.z sb2)
    have TO2 : TupO h2 TO to := sb2.extBut _ _ D.TOz TO1
    refine wpAny_bind (forIn_by (fun j b s' => b = (none, ()) ∧ ∃ h' to', s' = { s with heap := h' } ∧ ZipO h' z TI TO .ellipsis f1 ∧ Its h' rs k j ∧ Kept z TO rs s.heap h' ∧ TupO h' TO to' ∧ to'.size = rs.length ∧ ∀ m, m < j → to'[m]? = vs[m]?) _ 0 _ _
      ⟨rfl, h2, to, rfl, hz2, i2, K2, TO2, hto, fun m q => by omega⟩ ?_ ?_)
    · rintro j ⟨x, kk⟩ b s' hj ⟨rfl, h', to', rfl, hz', i', K', TO', st', pre⟩
      rw [Nat.zero_add] at i' pre ⊢
      rw [List.getElem?_zipIdx] at hj
      obtain ⟨r, hr, rfl, rfl⟩ : ∃ r, rs[j]? = some r ∧ x = Value.ref r.it ∧ kk = j := by
        cases e : (rs.map fun r => Value.ref r.it)[j]? with
        | none =>
          have e' : (List.map (fun r => Value.ref r.it) rs).toArray.toList[j]? = none := e
          rw [e'] at hj
          cases hj
        | some y =>
          have e' : (List.map (fun r => Value.ref r.it) rs).toArray.toList[j]? = some y := e
          rw [e'] at hj
          obtain ⟨r, hr, rfl⟩ := map_get e
          have q := Option.some.inj hj
          have q1 := congrArg Prod.fst q
          have q2 := congrArg Prod.snd q
          exact ⟨r, hr, q1.symm, by have : 0 + j = kk := q2; omega⟩
      have hm := List.mem_of_getElem? hr
      obtain ⟨v, hv1, hv2⟩ := hv.2 kk r hr
      obtain ⟨it1, il⟩ := i' kk r hr
      rw [if_neg (Nat.lt_irrefl _)] at it1
      refine wpAny_bind (wpAny_onRaise ?_)
      show wpAny _ _ (Builtin.SmallTypes.nextOf (.ref r.it) >>= _) _ _ _
      refine wpAny_bind (wpAny_nextOf_list_item (s := { s with heap := h' }) it1 il hv2 fun h3 it3 sb3 => wpAny_pure ?_)
      have TO3 : TupO h3 TO to' := sb3.extBut _ _ (D.itz r hm).2.2.symm TO'
      have hkl := (List.getElem?_eq_some_iff.mp hr).1
      refine wpAny_bind (wpAny_seqItems (s := { s with heap := h3 }) TO3 rfl ?_)
      refine wpAny_bind (wpAny_updateSeq (s := { s with heap := h3 }) TO3 rfl (wpAny_bind (wpAny_letGo (wpAny_pure ⟨_, rfl, rfl, ?_⟩))) (Nat.le_trans (Nat.le_of_eq st') (Bw.sz63 hl)) ?_)
      · have sb4 : Heap.SameBut TO h3 (h3.update TO (Obj.mapSeq fun x => x.setIfInBounds kk v)) := Heap.SameBut.update ..
        refine ⟨_, to'.setIfInBounds kk v, rfl, sb4.extBut _ _ D.TOz.symm (sb3.extBut _ _ (D.itz r hm).1.symm hz'), (i'.next D hr it3 sb3).but sb4 (fun r hr => (D.itz r hr).2.2) (fun r hr => (D.lz r hr).2), (K'.trans (.it hm sb3)).trans (.TO sb4), ?_, ?_, fun m hm2 => ?_⟩
        · show Heap.get? _ _ = _
          rw [Heap.get?_update_self _ TO3 rfl]
          simp [Obj.mapSeq]
        · rw [Array.size_setIfInBounds]
          exact st'
        · by_cases c : kk = m
          · subst c
            rw [Array.getElem?_setIfInBounds_self_of_lt (by omega), hv1]
          · rw [Array.getElem?_setIfInBounds_ne c]
            exact pre m (by omega)
      · rw [Array.size_setIfInBounds, st']
        have := Bw.sz63 hl
        omega
    · rintro b s' ⟨rfl, h', to', rfl, hz', i', K', TO', st', pre⟩
      have hlen : 0 + (List.map (fun r => Value.ref r.it) rs).toArray.toList.zipIdx.length = rs.length := by simp
      rw [hlen] at i' pre
      have tov : to' = vs.toArray := by
        apply Array.ext_getElem?
        intro m
        by_cases c : m < rs.length
        · rw [pre m c]
          simp
        · rw [Array.getElem?_eq_none (by omega), Array.getElem?_eq_none (by simp; omega)]
      subst tov
      refine wpAny_bind (wpAny_seqItems (s := { s with heap := h' }) TO' rfl ?_)
      refine wpAny_bind (wpAny_newTuple ?_ (by have := Bw.sz63 hl; simpa [hvl] using this))
      have hsz : h'.objs.size = s.heap.objs.size := K'.1
      show wpAny _ _ (Builtin.SmallTypes.ownedTupleHandOut (.ref z) (.ref h'.objs.size) >>= _) _ _ _
      refine wpAny_bind ?_
      unfold Builtin.SmallTypes.ownedTupleHandOut
      have up6 : ∀ c o, h'.get? c = some o → (h'.push { cls := .type "tuple", data := .seq vs.toArray }).get? c = some o := fun c o e => Heap.get?_push_of_some _ e
      have hz6 : ZipO (h'.push { cls := .type "tuple", data := .seq vs.toArray }) z TI TO .ellipsis f1 := up6 _ _ hz'
      refine wpAny_bind (wpAny_setField_rec (s := { s with heap := _ }) hz6 (by simp) fun h7 hz7 sb7 => ?_)
      replace hz7 : ZipO h7 z TI TO (rawInt h'.objs.size) f1 := hz7
      refine wpAny_setField_rec (s := { s with heap := h7 }) hz7 (by simp) fun h8 hz8 sb8 => ?_
      replace hz8 : ZipO h8 z TI TO (rawInt h'.objs.size) false := hz8
      have up : ∀ c o, c ≠ z → h'.get? c = some o → h8.get? c = some o := fun c o c1 e => sb8.extBut _ _ c1 (sb7.extBut _ _ c1 (up6 c o e))
      have hzl : z < h'.objs.size := Heap.lt_size hz'
      have T8 : TupO h8 h'.objs.size vs.toArray := sb8.extBut _ _ (Nat.ne_of_gt hzl) (sb7.extBut _ _ (Nat.ne_of_gt hzl) (Heap.get?_push_size _ rfl))
      have s8 : h8.objs.size = h'.objs.size + 1 := by rw [sb8.1, sb7.1, Heap.size_push]
      have i8 : Its h8 rs (k + 1) 0 := fun m r e =>
        ⟨(i'.done m r e).1.at fun o q => up _ o (D.itz r (List.mem_of_getElem? e)).1 q, (i'.done m r e).2.at fun o q => up _ o (D.lz r (List.mem_of_getElem? e)).1 q⟩
      rw [hsz] at hz8 T8 s8
      refine wpAny_pure ⟨_, rfl, ?_⟩
      show Q (.ref h'.objs.size) _
      rw [hsz]
      exact hQ h8 _ _ _ (.inr ⟨_, rfl⟩) hz8 (up _ _ D.TIz (TIk K' hTI)) (up _ _ D.TOz TO') st' i8 T8 s8 fun c o c1 c2 c3 e => up c o c1 (K'.2 c o c1 c2 c3 e)
  | false =>
    simp only [Bool.false_eq_true, if_false]
    refine wpAny_bind ?_
    rw [← Array.forIn_toList]
    refine forIn_by (fun j b s' => b = (none, (vs.take j).toArray) ∧ ∃ h', s' = { s with heap := h' } ∧ ZipO h' z TI TO f0 f1 ∧ Its h' rs k j ∧ Kept z TO rs s.heap h' ∧ TupO h' TO to) _ 0 _ _
      ⟨rfl, h1, rfl, hz1, i1, K1, TO1⟩ ?_ ?_
    · rintro j x b s' hj ⟨rfl, h', rfl, hz', i', K', TO'⟩
      rw [Nat.zero_add] at i' ⊢
      obtain ⟨r, hr, rfl⟩ := map_get (show (rs.map fun r => Value.ref r.it)[j]? = some x from hj)
      have hm := List.mem_of_getElem? hr
      obtain ⟨v, hv1, hv2⟩ := hv.2 j r hr
      obtain ⟨it1, il⟩ := i' j r hr
      rw [if_neg (Nat.lt_irrefl _)] at it1
      refine wpAny_bind (wpAny_holding ?_)
      show wpAny _ _ (Builtin.SmallTypes.nextOf (.ref r.it) >>= _) _ _ _
      refine wpAny_bind (wpAny_nextOf_list_item (s := { s with heap := h' }) it1 il hv2 fun h3 it3 sb3 => wpAny_pure ?_)
      refine wpAny_pure ⟨_, rfl, ?_, h3, rfl, sb3.extBut _ _ (D.itz r hm).1.symm hz', i'.next D hr it3 sb3, K'.trans (.it hm sb3), sb3.extBut _ _ (D.itz r hm).2.2.symm TO'⟩
      rw [List.take_succ, hv1]
      simp
    · rintro b s' ⟨rfl, h', rfl, hz', i', K', TO'⟩
      have hlen : 0 + (List.map (fun r => Value.ref r.it) rs).toArray.toList.length = rs.length := by simp
      rw [hlen] at i' ⊢
      rw [← hvl, List.take_length]
      show wpAny _ _ (newTuple vs >>= _) _ _ _
      refine wpAny_bind (wpAny_newTuple ?_ (by have := Bw.sz63 hl; omega))
      have hsz : h'.objs.size = s.heap.objs.size := K'.1
      have up : ∀ c o, h'.get? c = some o → (h'.push { cls := .type "tuple", data := .seq vs.toArray }).get? c = some o := fun c o e => Heap.get?_push_of_some _ e
      refine wpAny_pure ⟨_, rfl, ?_⟩
      show Q (.ref h'.objs.size) _
      have T8 : TupO (h'.push { cls := .type "tuple", data := .seq vs.toArray }) h'.objs.size vs.toArray := Heap.get?_push_size _ rfl
      have s8 : (h'.push { cls := .type "tuple", data := .seq vs.toArray }).objs.size = h'.objs.size + 1 := Heap.size_push ..
      rw [hsz] at T8 s8 ⊢
      exact hQ _ _ _ _ hf (up _ _ hz') (up _ _ (TIk K' hTI)) (up _ _ TO') hto (fun m r e => ⟨(i'.done m r e).1.at fun o q => up _ o q, (i'.done m r e).2.at fun o q => up _ o q⟩) T8 s8
        fun c o c1 c2 c3 e => up c o (K'.2 c o c1 c2 c3 e)

theorem next_end {z TI TO : Addr} {r : Rw} {t : List Rw} {k : Nat} {f0 : Value} {f : Bool} {to : Array Value} {Q : PySem.Fin → Shared → Prop} (hh : A.handled = none) (D : Apart z TI TO (r :: t)) (hf : Fld0 f0)
    (hz : ZipO s.heap z TI TO f0 f) (hTI : TupO s.heap TI ((r :: t).map fun r => Value.ref r.it).toArray) (hi : Its s.heap (r :: t) k 0) (hx : r.xs[k]? = none)
    (hE : ∀ h' e, (∀ c o, c ≠ z → c ≠ TO → (∀ q ∈ r :: t, c ≠ q.it) → s.heap.get? c = some o → h'.get? c = some o) → (∃ o, h'.get? e = some o ∧ o.cls = .type "StopIteration") → E (.ref e) { s with heap := h' }) :
    wpAny (model prog w) A (Builtin.«zip.__next__» ⟨[.ref z], []⟩) Q E s := by
  have hm : r ∈ r :: t := List.mem_cons_self
  show wpAny _ _ (field (.ref z) 2 >>= _) _ _ _
  refine wpAny_bind (wpAny_field hz rfl (x := .bool false) rfl ?_)
  show wpAny _ _ (field (.ref z) 3 >>= _) _ _ _
  refine wpAny_bind (wpAny_field hz rfl (x := .ref TI) rfl ?_)
  refine wpAny_bind (wpAny_seqItems hTI rfl ?_)
  have ne : ((r :: t).map fun r => Value.ref r.it).toArray.isEmpty = false := rfl
  dsimp only
  rw [ne]
  show wpAny _ _ (Builtin.SmallTypes.ownedTupleIsFree (.ref z) >>= _) _ _ _
  refine wpAny_bind (owned hf hz fun h1 b f1 hz1 sb1 => ?_)
  have i1 : Its h1 (r :: t) k 0 := hi.but sb1 (fun r hr => (D.itz r hr).1) fun r hr => (D.lz r hr).1
  cases b with
  | true =>
    simp only [if_true]
    refine wpAny_bind (wpAny_rule ?_)
    refine wpAny_bind (wpAny_field (s := { s with heap := h1 }) hz1 rfl (x := .ref TO) rfl ?_)
    refine wpAny_bind (wpAny_setField_rec (s := { s with heap := h1 }) hz1 (by simp) fun h2 hz2 sb2 => ?_)
    replace hz2 : ZipO h2 z TI TO .ellipsis f1 := hz2
    have i2 : Its h2 (r :: t) k 0 := i1.but sb2 (fun r hr => (D.itz r hr).1) fun r hr => (D.lz r hr).1
    obtain ⟨it1, il⟩ := i2 0 r rfl
    refine wpAny_bind ?_
    rw [List.map_cons, List.zipIdx_cons, List.forIn_cons]
    refine wpAny_bind (wpAny_bind (wpAny_onRaise ?_))
    show wpAny _ _ (Builtin.SmallTypes.nextOf (.ref r.it) >>= _) _ _ _
    refine wpAny_bind (wpAny_nextOf_list_end (s := { s with heap := h2 }) hh it1 il hx fun h3 e sb3 he => ?_)
    obtain ⟨oe, hoe, hce⟩ := he
    have hz3 : ZipO h3 z TI TO .ellipsis f1 := sb3 _ _ (D.itz r hm).1.symm hz2
    have hez : e ≠ z := fun x => by subst x; rw [hz3] at hoe; cases hoe; simp at hce
    exact wpAny_setField_rec (s := { s with heap := h3 }) hz3 (by simp) fun h4 _ sb4 => hE h4 e (fun c o c1 c2 c3 x => sb4.extBut _ _ c1 (sb3 _ _ (c3 r hm) (sb2.extBut _ _ c1 (sb1.extBut _ _ c1 x)))) ⟨oe, sb4.extBut _ _ hez hoe, hce⟩
  | false =>
    simp only [Bool.false_eq_true, if_false]
    obtain ⟨it1, il⟩ := i1 0 r rfl
    refine wpAny_bind ?_
    rw [← Array.forIn_toList]
    rw [List.map_cons, List.forIn_cons]
    refine wpAny_bind (wpAny_bind (wpAny_holding ?_))
    show wpAny _ _ (Builtin.SmallTypes.nextOf (.ref r.it) >>= _) _ _ _
    exact wpAny_bind (wpAny_nextOf_list_end (s := { s with heap := h1 }) hh it1 il hx fun h3 e sb3 he => hE h3 e (fun c o c1 c2 c3 x => sb3 _ _ (c3 r hm) (sb1.extBut _ _ c1 x)) he)

theorem pyNext_item {z TI TO : Addr} {rs : List Rw} {k : Nat} {f0 : Value} {f : Bool} {to : Array Value} {vs : List Value} {Q : Option Value → Shared → Prop} (D : Apart z TI TO rs) (hn : 0 < rs.length) (hl : rs.length ≤ 1000) (hf : Fld0 f0)
    (hz : ZipO s.heap z TI TO f0 f) (hTI : TupO s.heap TI (rs.map fun r => Value.ref r.it).toArray) (hTO : TupO s.heap TO to) (hto : to.size = rs.length) (hi : Its s.heap rs k 0) (hv : Vs rs k vs)
    (hQ : ∀ h' f0' f' to', Fld0 f0' → ZipO h' z TI TO f0' f' → TupO h' TI (rs.map fun r => Value.ref r.it).toArray → TupO h' TO to' → to'.size = rs.length → Its h' rs (k + 1) 0 → TupO h' s.heap.objs.size vs.toArray →
      h'.objs.size = s.heap.objs.size + 1 → (∀ c o, c ≠ z → c ≠ TO → (∀ r ∈ rs, c ≠ r.it) → s.heap.get? c = some o → h'.get? c = some o) → Q (some (.ref s.heap.objs.size)) { s with heap := h' }) :
    wpAny (model prog w) A (pyNext (.ref z)) Q E s := by
  have hT : s.TypeIs (.ref z) "zip" := ⟨_, hz, rfl⟩
  unfold pyNext
  exact wpAny_bind (wpAny_attempt (wpAny_callSpecial?_slot (name := Str.ofString "__next__") hT F.slot_zip_next
    (wpAny_call_entry F.slot_zip_next hT F.entry_zip_next
      (next_item D hn hl hf hz hTI hTO hto hi hv fun h' a b c d1 d2 d3 d4 d5 d6 d7 d8 d9 => wpAny_pure (hQ h' a b c d1 d2 d3 d4 d5 d6 d7 d8 d9)) (F.args_zip_next_1 _))))
theorem pyNext_end {z TI TO : Addr} {r : Rw} {t : List Rw} {k : Nat} {f0 : Value} {f : Bool} {Q : Option Value → Shared → Prop} (hh : A.handled = none) (D : Apart z TI TO (r :: t)) (hf : Fld0 f0)
    (hz : ZipO s.heap z TI TO f0 f) (hTI : TupO s.heap TI ((r :: t).map fun r => Value.ref r.it).toArray) (hi : Its s.heap (r :: t) k 0) (hx : r.xs[k]? = none)
    (hQ : ∀ h', (∀ c o, c ≠ z → c ≠ TO → (∀ q ∈ r :: t, c ≠ q.it) → s.heap.get? c = some o → h'.get? c = some o) → Q none { s with heap := h' }) :
    wpAny (model prog w) A (pyNext (.ref z)) Q E s := by
  have hT : s.TypeIs (.ref z) "zip" := ⟨_, hz, rfl⟩
  unfold pyNext
  refine wpAny_bind (wpAny_attempt (wpAny_callSpecial?_slot (name := Str.ofString "__next__") hT F.slot_zip_next
    (wpAny_call_entry F.slot_zip_next hT F.entry_zip_next (next_end (to := #[]) hh D hf hz hTI hi hx fun h' e hk he => ?_) (F.args_zip_next_1 _))))
  obtain ⟨o, ho, hc⟩ := he
  refine wpAny_bind (wpAny_isInstance (T := "StopIteration") (b := true) ⟨o, ho, hc⟩ isSubtype_stop ?_)
  exact wpAny_pure (hQ _ hk)
theorem pyIter_zip {z TI TO : Addr} {f0 : Value} {f : Bool} {Q : Value → Shared → Prop} (hz : ZipO s.heap z TI TO f0 f) (h : Q (.ref z) s) : wpAny (model prog w) A (pyIter (.ref z)) Q E s := by
  have hT : s.TypeIs (.ref z) "zip" := ⟨_, hz, rfl⟩
  refine wpAny_pyIter_slot hT F.slot_zip_iter (wpAny_call_entry F.slot_zip_iter hT F.entry_zip_iter ?_ (F.args_zip_iter_1 _))
  show wpAny _ _ (ret (.ref z)) _ _ s
  exact wpAny_pure ⟨_, rfl, "zip", _, hT, F.slot_zip_next.lookup, h⟩

/-! ### zip(*lists) is made -/
theorem typeCall_zip (us : List Value) : checkTypeCall "zip" ⟨us, []⟩ = pure () := by kernel_rfl
theorem newCall_zip : ∀ us : List Value, 0 < us.length → us.length ≤ 6 → checkBuiltinCall "zip.__new__" ⟨.type "zip" :: us, []⟩ = pure ()
  | [], h, _ => by simp at h
  | [a], _, _ => by kernel_rfl
  | [a, b], _, _ => by kernel_rfl
  | [a, b, c], _, _ => by kernel_rfl
  | [a, b, c, d], _, _ => by kernel_rfl
  | [a, b, c, d, e], _, _ => by kernel_rfl
  | [a, b, c, d, e, f], _, _ => by kernel_rfl
  | _ :: _ :: _ :: _ :: _ :: _ :: _ :: _, _, h => by simp at h
theorem args_init : ∀ us : List Value, 0 < us.length → us.length ≤ 6 → ∀ o : Value, argsOk "object.__init__" ⟨o :: us, []⟩ := by
  intro us h0 h1 o
  unfold argsOk; rw [signature?_of (id := "object.__init__") (n := ['_', '_', 't', 'i', 'n', 'i', '_', '_']) (o := ['t', 'c', 'e', 'j', 'b', 'o']) (by kernel_rfl) F.owner_object]
  match us, h0, h1 with
  | [], h, _ => simp at h
  | [a], _, _ => kernel_rfl
  | [a, b], _, _ => kernel_rfl
  | [a, b, c], _, _ => kernel_rfl
  | [a, b, c, d], _, _ => kernel_rfl
  | [a, b, c, d, e], _, _ => kernel_rfl
  | [a, b, c, d, e, f], _, _ => kernel_rfl
  | _ :: _ :: _ :: _ :: _ :: _ :: _ :: _, _, h => simp at h

/-- the rows of a new zip of the lists ls, its first iterator at p -/
def rowsAt : Nat → List (Addr × Array Value) → List Rw
  | _, [] => []
  | p, l :: ls => ⟨p, l.1, l.2⟩ :: rowsAt (p + 1) ls
theorem rowsAt_len : ∀ (ls : List (Addr × Array Value)) (p : Nat), (rowsAt p ls).length = ls.length
  | [], _ => rfl
  | l :: ls, p => congrArg (· + 1) (rowsAt_len ls (p + 1))
theorem rowsAt_get : ∀ (ls : List (Addr × Array Value)) (p m : Nat), (rowsAt p ls)[m]? = (ls[m]?).map fun l => ⟨p + m, l.1, l.2⟩
  | [], _, _ => rfl
  | l :: ls, p, 0 => rfl
  | l :: ls, p, m + 1 => by
    show (rowsAt (p + 1) ls)[m]? = _
    rw [rowsAt_get ls (p + 1) m, List.getElem?_cons_succ, show p + 1 + m = p + (m + 1) by omega]

theorem rowsAt_app : ∀ (ls ms : List (Addr × Array Value)) (p : Nat), rowsAt p (ls ++ ms) = rowsAt p ls ++ rowsAt (p + ls.length) ms
  | [], ms, p => rfl
  | l :: ls, ms, p => by
    show _ :: rowsAt (p + 1) (ls ++ ms) = _
    rw [rowsAt_app ls ms (p + 1), List.length_cons, show p + 1 + ls.length = p + (ls.length + 1) by omega]
    rfl
theorem meets_new (ls : List (Addr × Array Value)) (hl : ls.length ≤ 1000) :
    Meets (Builtin.«zip.__new__» ⟨.type "zip" :: ls.map fun l => .ref l.1, []⟩) (fun _ R s => (∀ l ∈ ls, s.heap.IsList l.1 l.2) ∧
      ∀ h', ZipO h' (s.heap.objs.size + ls.length + 2) (s.heap.objs.size + ls.length) (s.heap.objs.size + ls.length + 1) .none false → TupO h' (s.heap.objs.size + ls.length) ((rowsAt s.heap.objs.size ls).map fun r => Value.ref r.it).toArray →
        TupO h' (s.heap.objs.size + ls.length + 1) (List.replicate ls.length Value.none).toArray → Its h' (rowsAt s.heap.objs.size ls) 0 0 → (∀ c o, s.heap.get? c = some o → h'.get? c = some o) →
        R (.ok (.ret (.ref (s.heap.objs.size + ls.length + 2)))) { s with heap := h' }) :=
  .of_wp fun prog w A R s h => by
    obtain ⟨hL, h⟩ := h
    have hsub := sub_zip
    obtain ⟨hp, g, d, tk, os⟩ := s
    unfold Builtin.«zip.__new__» Builtin.SmallTypes.newClass
    repeat (any_goals (first | assumption | wp_step))
    show wpAny _ _ (forIn (ls.map fun l => Value.ref l.1) (#[] : Array Value) fun x its => holding its.toList (pyIter x) >>= fun v => pure (ForInStep.yield (its.push v))) _ _ _
    dsimp only at hL h
    refine forIn_by (s := ⟨hp, g, d, tk, os⟩) (fun j b s' => j ≤ ls.length ∧ b = ((rowsAt hp.objs.size (ls.take j)).map fun r => Value.ref r.it).toArray ∧ ∃ h', s' = ⟨h', g, d, tk, os⟩ ∧ h'.objs.size = hp.objs.size + j ∧ Its h' (rowsAt hp.objs.size (ls.take j)) 0 0 ∧
      (∀ c o, hp.get? c = some o → h'.get? c = some o)) _ 0 _ ⟨Nat.zero_le _, rfl, hp, rfl, rfl, fun m r e => (by simp [rowsAt] at e), fun _ _ e => e⟩ ?_ ?_
    · rintro j x b s' hj ⟨hjl, rfl, h', rfl, hsz, hi, hk⟩
      rw [Nat.zero_add] at hi hsz hjl ⊢
      rw [List.getElem?_map] at hj
      cases e : ls[j]? with
      | none =>
        rw [e] at hj
        cases hj
      | some l =>
        rw [e] at hj
        have hx : Value.ref l.1 = x := Option.some.inj hj
        subst hx
        have hlt := (List.getElem?_eq_some_iff.mp e).1
        have hll : h'.IsList l.1 l.2 := (hL l (List.mem_of_getElem? e)).at fun o q => hk _ o q
        refine wpAny_bind (wpAny_holding (wpAny_pyIter_list (s := ⟨h', g, d, tk, os⟩) hll (wpAny_pure ⟨_, rfl, hlt, ?_, _, rfl, ?_, ?_, fun c o q => Heap.get?_push_of_some _ (hk c o q)⟩)))
        · rw [List.take_succ, e, rowsAt_app, List.map_append]
          show Array.push _ (Value.ref h'.objs.size) = _
          rw [hsz, List.length_take, Nat.min_eq_left (Nat.le_of_lt hlt)]
          simp [rowsAt]
        · rw [Heap.size_push, hsz]
          omega
        · intro m r er
          rw [List.take_succ, e, rowsAt_app, List.length_take, Nat.min_eq_left (Nat.le_of_lt hlt)] at er
          have up : ∀ c o, h'.get? c = some o → (h'.push { cls := .type "list_iterator", data := .fields #[.ref l.1, .int 0 0] }).get? c = some o := fun c o q => Heap.get?_push_of_some _ q
          rw [List.getElem?_append] at er
          split at er
          · exact ⟨(hi m r er).1.at fun o q => up _ o q, (hi m r er).2.at fun o q => up _ o q⟩
          · have em : r = ⟨hp.objs.size + j, l.1, l.2⟩ := by
              simp only [Option.toList, rowsAt] at er
              have := List.mem_of_getElem? er
              simpa using this
            subst em
            refine ⟨?_, hll.at fun o q => up _ o q⟩
            rw [if_neg (Nat.not_lt_zero _)]
            show Heap.IsListIter _ (hp.objs.size + j) _ _
            rw [← hsz]
            exact ⟨_, Heap.get?_push_size _ rfl, rfl, rfl⟩
    · rintro b s' ⟨hjl, rfl, h', rfl, hsz, hi, hk⟩
      have hlen : 0 + (ls.map fun l => Value.ref l.1).length = ls.length := by simp
      rw [hlen] at hsz hi ⊢
      rw [List.take_length] at hi ⊢
      refine wpAny_pure ?_
      have rl : ((rowsAt hp.objs.size ls).map fun r => Value.ref r.it).length = ls.length := by rw [List.length_map, rowsAt_len]
      refine wpAny_bind (wpAny_newTuple ?_ (by have := Bw.sz63 hl; show ((rowsAt hp.objs.size ls).map fun r => Value.ref r.it).length ≤ _; omega))
      refine wpAny_bind (wpAny_newTuple ?_ (by have := Bw.sz63 hl; rw [List.length_map]; show ((rowsAt hp.objs.size ls).map fun r => Value.ref r.it).length ≤ _; omega))
      refine wpAny_bind ?_
      unfold Builtin.SmallTypes.newRecord Builtin.SmallTypes.ownedTupleFields
      refine wpAny_newObj_type ?_ (by size_fits)
      refine wpAny_pure ⟨_, rfl, ?_⟩
      have l1 : (rowsAt hp.objs.size ls).length = ls.length := rowsAt_len _ _
      generalize rowsAt hp.objs.size ls = rs at h hi l1 ⊢
      have e1 : (List.map (fun x => Value.none) (List.map (fun r => Value.ref r.it) rs).toArray.toList).toArray = (List.replicate ls.length Value.none).toArray := by
        rw [← l1]
        congr 1
        show List.map (fun x => Value.none) (List.map (fun r => Value.ref r.it) rs) = _
        rw [List.map_map]
        exact List.map_const
      rw [e1]
      have t1 : TupO (h'.push { cls := .type "tuple", data := .seq (List.map (fun r => Value.ref r.it) rs).toArray }) h'.objs.size (List.map (fun r => Value.ref r.it) rs).toArray := Heap.get?_push_size _ rfl
      have z1 : (h'.push { cls := .type "tuple", data := .seq (List.map (fun r => Value.ref r.it) rs).toArray }).objs.size = h'.objs.size + 1 := Heap.size_push ..
      have k1 : ∀ c o, h'.get? c = some o → (h'.push { cls := .type "tuple", data := .seq (List.map (fun r => Value.ref r.it) rs).toArray }).get? c = some o := fun c o q => Heap.get?_push_of_some _ q
      show R (.ok (.ret (.ref _))) ⟨Heap.push (Heap.push (Heap.push h' { cls := .type "tuple", data := .seq (List.map (fun r => Value.ref r.it) rs).toArray }) { cls := .type "tuple", data := .seq (List.replicate ls.length Value.none).toArray })
        { cls := .type "zip", data := .fields #[.none, .bool false, .bool false, .ref h'.objs.size, .ref (h'.push { cls := .type "tuple", data := .seq (List.map (fun r => Value.ref r.it) rs).toArray }).objs.size] }, g, d, tk, os⟩
      generalize h'.push { cls := .type "tuple", data := .seq (List.map (fun r => Value.ref r.it) rs).toArray } = h1 at t1 z1 k1 ⊢
      have t2 : TupO (h1.push { cls := .type "tuple", data := .seq (List.replicate ls.length Value.none).toArray }) h1.objs.size (List.replicate ls.length Value.none).toArray := Heap.get?_push_size _ rfl
      have z2 : (h1.push { cls := .type "tuple", data := .seq (List.replicate ls.length Value.none).toArray }).objs.size = h1.objs.size + 1 := Heap.size_push ..
      have k2 : ∀ c o, h1.get? c = some o → (h1.push { cls := .type "tuple", data := .seq (List.replicate ls.length Value.none).toArray }).get? c = some o := fun c o q => Heap.get?_push_of_some _ q
      show R (.ok (.ret (.ref (h1.push { cls := .type "tuple", data := .seq (List.replicate ls.length Value.none).toArray }).objs.size))) _
      generalize h1.push { cls := .type "tuple", data := .seq (List.replicate ls.length Value.none).toArray } = h2 at t2 z2 k2 ⊢
      rw [z1, hsz] at t2 z2 ⊢
      rw [hsz] at t1
      rw [z2]
      have t3 : ZipO (h2.push { cls := .type "zip", data := .fields #[.none, .bool false, .bool false, .ref (hp.objs.size + ls.length), .ref (hp.objs.size + ls.length + 1)] }) h2.objs.size (hp.objs.size + ls.length) (hp.objs.size + ls.length + 1) .none false := Heap.get?_push_size _ rfl
      have k3 : ∀ c o, h2.get? c = some o → (h2.push { cls := .type "zip", data := .fields #[.none, .bool false, .bool false, .ref (hp.objs.size + ls.length), .ref (hp.objs.size + ls.length + 1)] }).get? c = some o := fun c o q => Heap.get?_push_of_some _ q
      rw [z2] at t3
      exact h _ t3 (k3 _ _ (k2 _ _ t1)) (k3 _ _ t2) (fun m r e => ⟨(hi m r e).1.at fun o q => k3 _ o (k2 _ o (k1 _ o q)), (hi m r e).2.at fun o q => k3 _ o (k2 _ o (k1 _ o q))⟩) fun c o q => k3 _ o (k2 _ o (k1 _ o (hk c o q)))

/-- call -/
theorem call_zip (ls : List (Addr × Array Value)) (h0 : 0 < ls.length) (h6 : ls.length ≤ 6) {Q : Value → Shared → Prop} (hL : ∀ l ∈ ls, s.heap.IsList l.1 l.2)
    (h : ∀ h', ZipO h' (s.heap.objs.size + ls.length + 2) (s.heap.objs.size + ls.length) (s.heap.objs.size + ls.length + 1) .none false → TupO h' (s.heap.objs.size + ls.length) ((rowsAt s.heap.objs.size ls).map fun r => Value.ref r.it).toArray →
        TupO h' (s.heap.objs.size + ls.length + 1) (List.replicate ls.length Value.none).toArray → Its h' (rowsAt s.heap.objs.size ls) 0 0 → (∀ c o, s.heap.get? c = some o → h'.get? c = some o) →
        Q (.ref (s.heap.objs.size + ls.length + 2)) { s with heap := h' }) :
    wpAny (model prog w) A (call (.type "zip") (ls.map fun l => .ref l.1)) Q E s := by
  have l1 : (ls.map fun l => Value.ref l.1).length = ls.length := List.length_map _
  refine callType_new F.called_zip (by decide) (typeCall_zip _) (newCall_zip _ (by omega) (by omega)) (args_init _ (by omega) (by omega)) F.entry_zip_new (meets_new ls (by omega)) ⟨hL, fun h' a b c d e => ?_⟩
  exact ⟨⟨_, a, rfl⟩, h h' a b c d e⟩
end

/-- the lists at as, as they stand at each turn, the items in new tuples -/
def ItzN (K : PySem.W.Frag) (as : List Addr) : It :=
  ⟨fun i H => ∀ a ∈ as, ∃ xs, SqL K H a xs ∧ i < xs.length,
    fun i H v H' => ∃ T vs, v = .ref T ∧ H T = none ∧ H' = upd H T (.tup vs) ∧ vs.length = as.length ∧ ∀ (m : Nat) a xs, as[m]? = some a → SqL K H a xs → vs[m]? = xs[i]?,
    fun i H => ∃ a xs, as[0]? = some a ∧ (∀ b ∈ as, ∃ ys, SqL K H b ys) ∧ SqL K H a xs ∧ xs.length ≤ i⟩

theorem eqN {a b : Addr} (h : a = b) : @Eq Nat a b := h
theorem neN {a b : Addr} (h : ¬ @Eq Nat a b) : a ≠ b := h
def rowsOf (p : Nat) (as : List Addr) (g : Addr → Array Value) : List Rw := rowsAt p (as.map fun a => (a, g a))
theorem rowsOf_len (p : Nat) (as : List Addr) (g : Addr → Array Value) : (rowsOf p as g).length = as.length := by
  unfold rowsOf
  rw [rowsAt_len, List.length_map]
theorem rowsOf_get {p : Nat} {as : List Addr} {g : Addr → Array Value} {m : Nat} {r : Rw} (h : (rowsOf p as g)[m]? = some r) : ∃ a, as[m]? = some a ∧ r = ⟨p + m, a, g a⟩ := by
  unfold rowsOf at h
  rw [rowsAt_get, List.getElem?_map] at h
  cases e : as[m]? with
  | none =>
    rw [e] at h
    cases h
  | some a =>
    rw [e] at h
    exact ⟨a, rfl, (Option.some.inj h).symm⟩
theorem rowsOf_it : ∀ (as : List Addr) (p : Nat) (g : Addr → Array Value), (rowsOf p as g).map (fun r => Value.ref r.it) = (List.range' p as.length).map Value.ref
  | [], _, _ => rfl
  | a :: as, p, g => by
    show Value.ref p :: (rowsOf (p + 1) as g).map (fun r => Value.ref r.it) = _
    rw [rowsOf_it as (p + 1) g]
    rfl
theorem apart {p : Nat} {as : List Addr} (h : ∀ a ∈ as, a < p) (g : Addr → Array Value) : Apart (p + as.length + 2) (p + as.length) (p + as.length + 1) (rowsOf p as g) := by
  have get : ∀ r ∈ rowsOf p as g, ∃ m a, m < as.length ∧ a < p ∧ r = ⟨p + m, a, g a⟩ := fun r hr => by
    obtain ⟨m, hm⟩ := List.mem_iff_getElem?.mp hr
    obtain ⟨a, ha, e⟩ := rowsOf_get hm
    exact ⟨m, a, (List.getElem?_eq_some_iff.mp ha).1, h a (List.mem_of_getElem? ha), e⟩
  refine ⟨?_, ?_, ?_, fun r hr => ?_, fun i j r q hi hj ne => ?_, fun r hr => ?_, fun r hr q hq => ?_⟩
  · exact neN (by omega)
  · exact neN (by omega)
  · exact neN (by omega)
  · obtain ⟨m, a, hm, ha, rfl⟩ := get r hr
    refine ⟨?_, ?_, ?_⟩ <;> (refine neN ?_; show ¬ @Eq Nat (p + m) _; omega)
  · obtain ⟨a, ha, rfl⟩ := rowsOf_get hi
    obtain ⟨b, hb, rfl⟩ := rowsOf_get hj
    exact neN (by show ¬ @Eq Nat (p + i) (p + j); omega)
  · obtain ⟨m, a, hm, ha, rfl⟩ := get r hr
    refine ⟨?_, ?_⟩ <;> (show ¬ (a = _); exact Nat.ne_of_lt (Nat.lt_of_lt_of_le ha (by omega)))
  · obtain ⟨m, a, hm, ha, rfl⟩ := get r hr
    obtain ⟨m2, a2, hm2, ha2, rfl⟩ := get q hq
    show ¬ (a = p + m2)
    exact Nat.ne_of_lt (Nat.lt_of_lt_of_le ha (by omega))

def fpN (p n : Nat) : List Addr := List.range' p (n + 3)
theorem fp_mem {p n c : Nat} : c ∈ fpN p n ↔ p ≤ c ∧ c < p + n + 3 := by
  unfold fpN
  rw [List.mem_range'_1]
  omega
def TnN (p : Nat) (as : List Addr) (i : Nat) (h : Heap) : Prop := ∃ f0 f to, Fld0 f0 ∧ ZipO h (p + as.length + 2) (p + as.length) (p + as.length + 1) f0 f ∧ TupO h (p + as.length) ((List.range' p as.length).map Value.ref).toArray ∧
  TupO h (p + as.length + 1) to ∧ to.size = as.length ∧ ∀ (m : Nat) a, as[m]? = some a → h.IsListIter (p + m) a i

theorem turnN {P : Program} {w : World} {K : PySem.W.Frag} {x : Str} {tpos : Pos} {p : Nat} {as : List Addr} (ha : ∀ a ∈ as, a < p) (h0 : 0 < as.length) (h6 : as.length ≤ 6) :
    Turn P w K (.Name x tpos) (ItzN K as) (fpN p as.length) (p + as.length + 2) (TnN p as) where
  mem := fp_mem.mpr ⟨by omega, by omega⟩
  obj := fun i h st c hc => by
    obtain ⟨f0, f, to, hf, hz, hTI, hTO, hto, hi⟩ := st
    obtain ⟨l, u⟩ := fp_mem.mp hc
    by_cases c1 : c = p + as.length + 2
    · rw [c1]; exact ⟨_, hz, fun v q => nomatch q⟩
    by_cases c2 : c = p + as.length + 1
    · rw [c2]; exact ⟨_, hTO, fun v q => nomatch q⟩
    by_cases c3 : c = p + as.length
    · rw [c3]; exact ⟨_, hTI, fun v q => nomatch q⟩
    have c1' : ¬ @Eq Nat c (p + as.length + 2) := c1
    have c2' : ¬ @Eq Nat c (p + as.length + 1) := c2
    have c3' : ¬ @Eq Nat c (p + as.length) := c3
    obtain ⟨m, e⟩ : ∃ m : Nat, c = p + m := Nat.exists_eq_add_of_le l
    have e2 := eqN e
    have hm : m < as.length := by omega
    obtain ⟨o, ho, _, d⟩ := hi m as[m] (List.getElem?_eq_getElem hm)
    rw [← e] at ho
    exact ⟨o, ho, fun v q => by rw [d] at q; cases q⟩
  keep := fun i h h' st k => by
    obtain ⟨f0, f, to, hf, hz, hTI, hTO, hto, hi⟩ := st
    refine ⟨f0, f, to, hf, k _ (fp_mem.mpr ⟨by omega, by omega⟩) _ hz, k _ (fp_mem.mpr ⟨by omega, by omega⟩) _ hTI, k _ (fp_mem.mpr ⟨by omega, by omega⟩) _ hTO, hto, fun m a e => ?_⟩
    have hm := (List.getElem?_eq_some_iff.mp e).1
    exact (hi m a e).at fun o q => k _ (fp_mem.mpr ⟨by omega, by omega⟩) o q
  item := by
    intro X hP hw hK hc i pins s σ H E I hf st hg
    subst hP hw hK
    obtain ⟨f0, f, to, hf0, hz, hTI, hTO, hto, hi⟩ := st
    have hg' : ∀ a : Addr, ∃ q : V × Value × Array Value, a ∈ as → (∃ xs, SqL X.K H a xs ∧ xs[i]? = some q.1) ∧ s.heap.IsList a q.2.2 ∧ q.2.2[i]? = some q.2.1 ∧ RelV q.1 q.2.1 := fun a => by
      by_cases m : a ∈ as
      · obtain ⟨xs, hx, hl⟩ := hg a m
        obtain ⟨its, rv, pl, _⟩ := I.list hx
        obtain ⟨u, hu, ru⟩ := rv.get (List.getElem?_eq_getElem hl)
        exact ⟨(xs[i], u, its.toArray), fun _ => ⟨⟨xs, hx, List.getElem?_eq_getElem hl⟩, pl.isList, by simpa using hu, ru⟩⟩
      · exact ⟨(.non, .none, #[]), fun z => absurd z m⟩
    let G := fun a => Classical.choose (hg' a)
    have hG : ∀ a ∈ as, (∃ xs, SqL X.K H a xs ∧ xs[i]? = some (G a).1) ∧ s.heap.IsList a (G a).2.2 ∧ (G a).2.2[i]? = some (G a).2.1 ∧ RelV (G a).1 (G a).2.1 := fun a m => Classical.choose_spec (hg' a) m
    generalize G = G at hG
    have rl := rowsOf_len p as fun a => (G a).2.2
    have D := apart ha fun a => (G a).2.2
    have rit := rowsOf_it as p fun a => (G a).2.2
    have HIts : Its s.heap (rowsOf p as fun a => (G a).2.2) i 0 := fun m r e => by
      obtain ⟨a, ea, rfl⟩ := rowsOf_get e
      rw [if_neg (Nat.not_lt_zero _)]
      exact ⟨hi m a ea, (hG a (List.mem_of_getElem? ea)).2.1⟩
    have hV : Vs (rowsOf p as fun a => (G a).2.2) i (as.map fun a => (G a).2.1) := ⟨by rw [List.length_map, rl], fun m r e => by
      obtain ⟨a, ea, rfl⟩ := rowsOf_get e
      exact ⟨(G a).2.1, by rw [List.getElem?_map, ea]; rfl, (hG a (List.mem_of_getElem? ea)).2.2.1⟩⟩
    have hzl : p + as.length + 2 < s.heap.objs.size := Heap.lt_size hz
    rw [← rit] at hTI
    refine pyNext_item D (by omega) (by omega) hf0 hz hTI hTO (by omega) HIts hV fun h' f0' f' to' hf0' z' TI' TO' to2 i' hT hsz hk => ?_
    refine ⟨_, rfl, ?_⟩
    show wpAny _ _ (letOwnedTupleGo (.Name x tpos) _ _) _ _ _
    refine wpAny_pure ?_
    have rvs : ∀ bs : List Addr, (∀ b ∈ bs, b ∈ as) → Vals (bs.map fun a => (G a).1) (bs.map fun a => (G a).2.1) := fun bs => by
      induction bs with
      | nil => exact fun _ => .nil
      | cons b bs ih => exact fun h => .cons (hG b (h b List.mem_cons_self)).2.2.2 (ih fun c hc => h c (List.mem_cons_of_mem _ hc))
    have new : ObjOk X.prog X.w (upd H s.heap.objs.size (.tup (as.map fun a => (G a).1))) h' s.heap.objs.size (.tup (as.map fun a => (G a).1)) :=
      ⟨by show (as.map fun a => (G a).1).length ≤ sizeLine; rw [List.length_map]; exact Bw.sz63 (by omega), as.map fun a => (G a).2.1, rvs as fun _ h => h, ⟨_, hT, rfl, _, rfl⟩⟩
    have I1 : Inv X pins σ (upd H s.heap.objs.size (.tup (as.map fun a => (G a).1))) { s with heap := h' } :=
      I.turnedNew (t' := s.toks) (ch := fpN p as.length) (fun c o hb q => hk c o (fun e => hb (fp_mem.mpr (by have := eqN e; omega))) (fun e => hb (fp_mem.mpr (by have := eqN e; omega))) (fun r hr e => hb (by
        obtain ⟨m, hm⟩ := List.mem_iff_getElem?.mp hr
        obtain ⟨a, ea, rfl⟩ := rowsOf_get hm
        have hm2 := (List.getElem?_eq_some_iff.mp ea).1
        have e' := eqN e
        have e'' : @Eq Nat c (p + m) := e'
        exact fp_mem.mpr (by omega))) q) hf (Nat.le_refl _) new
    refine ⟨.ref s.heap.objs.size, _, I1, rfl, ⟨_, _, rfl, I.hok.fresh (Nat.le_refl _), rfl, by rw [List.length_map], fun m a xs ea hx => ?_⟩, ⟨f0', f', to', hf0', z', by rw [rit] at TI'; exact TI', TO', by omega, fun m a ea => ?_⟩, fun c hcm => ?_⟩
    · rw [List.getElem?_map, ea]
      obtain ⟨ys, hy, ey⟩ := (hG a (List.mem_of_getElem? ea)).1
      rw [I.list_inj hx hy, ey]
      rfl
    · have er : (rowsOf p as fun a => (G a).2.2)[m]? = some ⟨p + m, a, (G a).2.2⟩ := by
        unfold rowsOf
        rw [rowsAt_get, List.getElem?_map, ea]
        rfl
      have := (i' m _ er).1
      rw [if_neg (Nat.not_lt_zero _)] at this
      exact this
    · obtain ⟨l, u⟩ := fp_mem.mp hcm
      have hlt : c < s.heap.objs.size := Nat.lt_of_lt_of_le u (by omega)
      rw [upd_ne (Nat.ne_of_lt hlt)]
      exact (hf c hcm).1
  done := by
    intro X hP hw hK hc i pins s σ H E I hf st hg
    subst hP hw hK
    obtain ⟨f0, f, to, hf0, hz, hTI, hTO, hto, hi⟩ := st
    obtain ⟨a0, xs0, ea0, hall, hx0, hle⟩ := hg
    have hg' : ∀ a : Addr, ∃ q : Array Value, a ∈ as → s.heap.IsList a q ∧ (a = a0 → q[i]? = none) := fun a => by
      by_cases m : a ∈ as
      · by_cases c : a = a0
        · subst c
          obtain ⟨its, rv, pl, _⟩ := I.list hx0
          have := rv.length
          exact ⟨its.toArray, fun _ => ⟨pl.isList, fun _ => by simp; omega⟩⟩
        · obtain ⟨ys, hy⟩ := hall a m
          obtain ⟨its, rv, pl, _⟩ := I.list hy
          exact ⟨its.toArray, fun _ => ⟨pl.isList, fun z => absurd z c⟩⟩
      · exact ⟨#[], fun z => absurd z m⟩
    let G := fun a => Classical.choose (hg' a)
    have hG : ∀ a ∈ as, s.heap.IsList a (G a) ∧ (a = a0 → (G a)[i]? = none) := fun a m => Classical.choose_spec (hg' a) m
    generalize G = G at hG
    have rl := rowsOf_len p as G
    have D := apart ha G
    have rit := rowsOf_it as p G
    have HIts : Its s.heap (rowsOf p as G) i 0 := fun m r e => by
      obtain ⟨a, ea, rfl⟩ := rowsOf_get e
      rw [if_neg (Nat.not_lt_zero _)]
      exact ⟨hi m a ea, (hG a (List.mem_of_getElem? ea)).1⟩
    rw [← rit] at hTI
    have hr0 : (rowsOf p as G)[0]? = some ⟨p + 0, a0, G a0⟩ := by
      unfold rowsOf
      rw [rowsAt_get, List.getElem?_map, ea0]
      rfl
    have hx := (hG a0 (List.mem_of_getElem? ea0)).2 rfl
    have hk2 : ∀ r ∈ rowsOf p as G, ∃ m, m < as.length ∧ r.it = p + m := fun r hr => by
      obtain ⟨m, hm⟩ := List.mem_iff_getElem?.mp hr
      obtain ⟨a, ea, rfl⟩ := rowsOf_get hm
      exact ⟨m, (List.getElem?_eq_some_iff.mp ea).1, rfl⟩
    generalize rowsOf p as G = rs at rl D rit HIts hTI hr0 hk2
    cases rs with
    | nil => cases hr0
    | cons r t =>
      have er : r = ⟨p + 0, a0, G a0⟩ := Option.some.inj hr0
      have hx' : r.xs[i]? = none := by rw [er]; exact hx
      refine pyNext_end (I.ok.hd hc) D hf0 hz hTI HIts hx' fun h' hk => ⟨rfl, I.turnedL (t' := s.toks) (ch := fpN p as.length) (fun c o hb q =>
        hk c o (fun e => hb (fp_mem.mpr (by have := eqN e; omega))) (fun e => hb (fp_mem.mpr (by have := eqN e; omega))) (fun q hq e => hb (by
          obtain ⟨m, hm, e2⟩ := hk2 q hq
          have e' := eqN e
          have e'' := eqN e2
          exact fp_mem.mpr (by omega))) q) hf⟩
  self := fun A i s Q E st h => by
    obtain ⟨f0, f, to, hf0, hz, _⟩ := st
    exact pyIter_zip hz h

/-- for x in zip( *lists) -/
def iZipN (K : PySem.W.Frag) (te : TE) : TI := fun σ H R => te σ H fun v H1 => ∃ (p : Addr) (as : List Addr), v = .ref p ∧ (SqT K H1 p (as.map V.ref) ∨ SqL K H1 p (as.map V.ref)) ∧ 0 < as.length ∧ as.length ≤ 6 ∧ (∀ a ∈ as, ∃ xs, SqL K H1 a xs) ∧ R (ItzN K as) H1
theorem vals_refs : ∀ {as : List Addr} {us : List Value}, Vals (as.map V.ref) us → us = as.map Value.ref
  | [], _, .nil => rfl
  | a :: as, _, .cons r t => by
    rw [vals_refs t]
    rw [show _ = Value.ref a from r]
    rfl
theorem callWith_typeS {M : Model} {A : Around} {E : Value → Shared → Prop} {s : Shared} {pos p : Pos} {T : String} {env : Env} {e : Expr} {Q : Value → Shared → Prop}
    (h : wpAny M A (eval e env) (fun v s₁ => PySem.W.StarOf M A E v (fun vs s₂ => wpAny M A (call (.type T) vs) Q E s₂) s₁) E s) (he : starEach [.Starred e p] env = [(true, eval e env)] := by rfl) :
    wpAny M A (callWith pos (.type T) [] (backTo pos (starEach [.Starred e p] env)) []) Q E s := by
  rw [he]
  have h := PySem.W.ks_lone (f := .type T) (pos := pos) (Q := fun a s₁ => wpAny M A (call (.type T) ([] ++ a.pos) a.kw) Q E s₁) h
  unfold callWith
  refine wpAny_bind (wpAny_holding (wpAny_mono h (fun a s₁ h₁ => wpAny_bind (wpAny_standAt ?_)) fun _ _ x => x))
  refine wpAny_bind (wpAny_pure ?_)
  have tail : ∀ {t : Sem Value}, wpAny M A t Q E s₁ → wpAny M A (t >>= fun r => holding [r] point >>= fun _ => pure r) Q E s₁ :=
    fun ht => wpAny_bind (wpAny_mono ht (fun r s₂ hr => wpAny_bind (wpAny_holding (wpAny_point (wpAny_pure hr)))) fun _ _ x => x)
  exact tail (wpAny_operating h₁)

theorem pi_zipN {X : Cx} {e : Expr} {te : TE} {x : Str} {p pos sp tpos : Pos} (hg : Gl X "zip") (hm : X.mg "zip" = none) (he : PE X e te)
    (hst : starEach [.Starred e sp] X.env = [(true, eval e X.env)] := by rfl) :
    PI X (.Name x tpos) (.Call (.Name "zip" p) [.Starred e sp] [] pos) (iZipN X.K te) := by
  refine ⟨fun pins s σ H R I h => ?_⟩
  refine Call_ (ld_blt I hg hm PyProof.Rows.boot_zip (callWith_typeS (thn (he.run pins s σ H _ I h) fun v s1 ⟨y, H1, I1, ry, q1⟩ => ?_) hst))
  obtain ⟨a, as, rfl, hq, h0, h6, hL, q⟩ := q1
  obtain rfl : v = Value.ref a := ry
  refine StX.star_any I1 hq fun us s2 I2 rv => ?_
  obtain rfl := vals_refs rv
  have hL' : ∀ b : Addr, ∃ its : Array Value, b ∈ as → s2.heap.IsList b its := fun b => by
    by_cases m : b ∈ as
    · obtain ⟨xs, hx⟩ := hL b m
      obtain ⟨its, _, pl, _⟩ := I2.list hx
      exact ⟨its.toArray, fun _ => pl.isList⟩
    · exact ⟨#[], fun z => absurd z m⟩
  let G := fun b => Classical.choose (hL' b)
  have hG : ∀ b ∈ as, s2.heap.IsList b (G b) := fun b m => Classical.choose_spec (hL' b) m
  generalize G = G at hG
  have lt : ∀ b ∈ as, b < s2.heap.objs.size := fun b m => by
    obtain ⟨o, ho, _⟩ := hG b m
    exact Heap.lt_size ho
  have e1 : as.map Value.ref = (as.map fun b => (b, G b)).map fun l => Value.ref l.1 := by
    rw [List.map_map]
    rfl
  rw [e1]
  have l1 : (as.map fun b => (b, G b)).length = as.length := List.length_map _
  refine call_zip _ (by omega) (by omega) (fun l hl => ?_) fun h' hz hTI hTO hi hk => pyIter_zip hz ?_
  · obtain ⟨b, hb, rfl⟩ := List.mem_map.mp hl
    exact hG b hb
  · have I3 : Inv X pins σ H1 { s2 with heap := h' } := I2.kept (t' := s2.toks) hk
    have rit := rowsOf_it as s2.heap.objs.size G
    rw [l1] at hz hTI hTO ⊢
    have hTI' : TupO h' (s2.heap.objs.size + as.length) ((List.range' s2.heap.objs.size as.length).map Value.ref).toArray := by
      rw [← rit]
      exact hTI
    refine ⟨_, fpN s2.heap.objs.size as.length, _, _, H1, rfl, I3, turnN lt h0 h6, ⟨_, _, _, .inl rfl, hz, hTI', hTO, by simp, fun m a ea => ?_⟩, fun c hc => ?_, q⟩
    · have er : (rowsAt s2.heap.objs.size (as.map fun b => (b, G b)))[m]? = some ⟨s2.heap.objs.size + m, a, G a⟩ := by
        rw [rowsAt_get, List.getElem?_map, ea]
        rfl
      have := (hi m _ er).1
      rw [if_neg (Nat.not_lt_zero _)] at this
      exact this
    · have hle : s2.heap.objs.size ≤ c := (fp_mem.mp hc).1
      exact I2.fpOk hle (I2.hok.fresh hle)

theorem walk_zipN {K : PySem.W.Frag} {as : List Addr} {rows : Nat → List V} {n : Nat} (h0 : 0 < as.length) (hr : ∀ i, i < as.length → (rows i).length = n) :
    Walk (ItzN K as) n (fun H => ∀ (i : Nat) a, as[i]? = some a → SqL K H a (rows i)) (fun i H v H' => ∃ T vs, v = .ref T ∧ H T = none ∧ H' = upd H T (.tup vs) ∧ vs.length = as.length ∧ ∀ (m : Nat) a, as[m]? = some a → vs[m]? = (rows m)[i]?) := by
  refine ⟨fun i H hi g a ha => ?_, fun H g => ?_, fun i H v H' hi g y => ?_⟩
  · obtain ⟨j, hj⟩ := List.mem_iff_getElem?.mp ha
    exact ⟨_, g j a hj, by rw [hr j (List.getElem?_eq_some_iff.mp hj).1]; exact hi⟩
  · have e : as[0]? = some as[0] := List.getElem?_eq_getElem h0
    refine ⟨_, _, e, fun b hb => ?_, g 0 _ e, by rw [hr 0 h0]; exact Nat.le_refl _⟩
    obtain ⟨j, hj⟩ := List.mem_iff_getElem?.mp hb
    exact ⟨_, g j b hj⟩
  · obtain ⟨T, vs, e1, e2, e3, e4, e5⟩ := y
    exact ⟨T, vs, e1, e2, e3, e4, fun m a ha => e5 m a _ ha (g m a ha)⟩
end Bz
/-! Part 7. Any value as data: its type; lists that are empty; comprehensions told by what each turn gives; fractions as data. -/
namespace Bw
open PySem PySem.Spec PyProof.Rows L2

theorem ifT {c : Prop} [Decidable c] {A B : Prop} (h : c) (a : A) : if c then A else B := by
  rw [if_pos h]
  exact a
theorem ifF {c : Prop} [Decidable c] {A B : Prop} (h : ¬ c) (b : B) : if c then A else B := by
  rw [if_neg h]
  exact b
/-! ### types -/
def tyD : PyData → String
  | .none => "NoneType"
  | .bool _ => "bool"
  | .int _ => "int"
  | .str _ => "str"
  | .list _ => "list"
  | .tuple _ => "tuple"
  | .dict _ => "dict"
theorem Dq.tyx {W : Addr → Prop} {H : Hp} {K : PySem.W.Frag} {v : V} {d : PyData} (h : Dq W H v d) : TyX K H v (.type (tyD d)) := by
  cases h with
  | non => exact .base .non
  | bl b => exact .base (.bl b)
  | int i => exact .base (.int i)
  | str x => exact .base (.str x)
  | lst _ e _ => exact .base (.lst e)
  | tup _ e _ => exact .base (.tup e)
  | dct _ e _ => exact .base (.dK e)
def isTup : PyData → Bool
  | .tuple _ => true
  | _ => false
def isInt : PyData → Bool
  | .int _ => true
  | .bool _ => true
  | _ => false
def isBl : PyData → Bool
  | .bool _ => true
  | _ => false
def isStr : PyData → Bool
  | .str _ => true
  | _ => false
theorem kit_tup (d : PyData) : kitB (tyD d) "tuple" = some (isTup d) := by
  cases d <;> (simp only [tyD, isTup]; decide +kernel)
theorem kit_int (d : PyData) : kitB (tyD d) "int" = some (isInt d) := by
  cases d <;> (simp only [tyD, isInt]; decide +kernel)
theorem kit_bool (d : PyData) : kitB (tyD d) "bool" = some (isBl d) := by
  cases d <;> (simp only [tyD, isBl]; decide +kernel)
theorem kit_str (d : PyData) : kitB (tyD d) "str" = some (isStr d) := by
  cases d <;> (simp only [tyD, isStr]; decide +kernel)
/-- isinstance(v, T), v any value that is data -/
def rIsD : List V → Hp → VK → Prop := fun xs H Q => ∃ (W : Addr → Prop) (v : V) (d : PyData) (n : String) (b : Bool), xs = [v, .ty n] ∧ Dq W H v d ∧ kitB (tyD d) n = some b ∧ Q (.bl b) H
theorem call_isD {X : Cx} : CallR X (.builtin "isinstance") rIsD := by
  intro pins s σ H xs us Q I r h
  obtain ⟨W, v, d, n, b, rfl, hd, hk, q⟩ := h
  exact call_isi pins s σ H _ us Q I r ⟨v, .ty n, _, _, b, rfl, .ty n, hd.tyx, kit_ty hk, q⟩

/-! ### a list and [] -/
def rNil (K : PySem.W.Frag) (neg : Bool) : R2 := fun x y H Q => ∃ a b xs, x = .ref a ∧ y = .ref b ∧ SqL K H a xs ∧ SqL K H b [] ∧ Q (.bl (if neg then !xs.isEmpty else xs.isEmpty)) H
theorem op_eqNil {X : Cx} (hu : X.A.units + 64 < cLine) : OpR X (compareOp .Eq) (rNil X.K false) := by
  intro pins s σ H x y v u Q I rx ry h
  obtain ⟨a, b, xs, rfl, rfl, ha, hb, q⟩ := h
  obtain rfl : v = Value.ref a := rx
  obtain rfl : u = Value.ref b := ry
  obtain ⟨its, rv, p1, _⟩ := I.list ha
  obtain ⟨its2, rv2, p2, _⟩ := I.list hb
  cases rv2
  cases xs with
  | nil =>
    cases rv
    exact SeqAt.eq_listAt (e := fun _ => true) p1.isList p2.isList rfl (by omega) (fun j h1 _ => absurd h1 (Nat.not_lt_zero j)) ⟨.bl true, H, I, rfl, q⟩
  | cons z zs =>
    cases rv with
    | cons r t => exact SeqAt.eq_list_lengthsAt p1.isList p2.isList (by simp) (by omega) ⟨.bl false, H, I, rfl, q⟩
/-- a tuple and () -/
def rNilT (K : PySem.W.Frag) : R2 := fun x y H Q => ∃ a b xs, x = .ref a ∧ y = .ref b ∧ SqT K H a xs ∧ SqT K H b [] ∧ Q (.bl xs.isEmpty) H
theorem op_eqNilT {X : Cx} (hu : X.A.units + 64 < cLine) : OpR X (compareOp .Eq) (rNilT X.K) := by
  intro pins s σ H x y v u Q I rx ry h
  obtain ⟨a, b, xs, rfl, rfl, ha, hb, q⟩ := h
  obtain rfl : v = Value.ref a := rx
  obtain rfl : u = Value.ref b := ry
  obtain ⟨its, rv, p1, _⟩ := I.tuple ha
  obtain ⟨its2, rv2, p2, _⟩ := I.tuple hb
  cases rv2
  refine SeqAt.eq_tupleAt (e := fun _ => true) p1 p2 (by omega) (fun j h1 h2 => absurd h2 (Nat.not_lt_zero j)) ⟨.bl xs.isEmpty, H, I, ?_, q⟩
  cases xs with
  | nil => cases rv; rfl
  | cons z zs =>
    cases rv with
    | cons r t =>
      show Value.bool _ = Value.bool _
      simp

/-! ### comprehensions -/
theorem Kp.D {W : Addr → Prop} {H H' : Hp} {D : Addr} {o : HO} (k : Kp W H H') : Kp (fun a => W a ∨ a = D) H (L2.upd H' D o) := fun a u n e => by
  rw [upd_ne (fun z => n (.inr z))]
  exact k a u (fun z => n (.inl z)) e
/-- each turn gives one value -/
theorem lc_rel {J : It} {n : Nat} {G : Hp → Prop} {Y : Nat → Hp → V → Hp → Prop} (w : Walk J n G Y) {g : TG} {te : TE} {vs : List Nat} {σ : L2.St} {H1 : Hp} {D : Addr} {Qd : Hp → Prop} (W : Addr → Prop) (R : Hp → Nat → V → Prop)
    (st : ∀ H H' i v, Kp (fun a => W a ∨ a = D) H H' → R H i v → R H' i v) (nD : H1 D = none) (hW : ∀ a, W a → H1 a ≠ none) (hn : n ≤ 1000) (hG : ∀ H, Kp W H1 H → G H)
    (hs : ∀ (i : Nat) (x : V) (H H' : Hp) (Q : VK), i < n → Kp W H1 H → H D ≠ none → Y i H x H' → (∀ y H4, Kp W H H4 → R H4 i y → Q y H4) → g x (wipe σ vs) H' fun σ2 H2 => wipe σ2 vs = wipe σ vs ∧ te σ2 H2 Q)
    (hd : ∀ H acc, Kp W H1 H → H D = some (.lst acc) → acc.length = n → (∀ i v, acc[i]? = some v → R H i v) → Qd H) :
    ∃ W : Nat → Nat → Hp → Prop, (∃ m, W 0 m (upd H1 D (.lst []))) ∧ ∀ i m H, W i m H →
      (J.stop i H ∧ Qd H) ∨ (J.go i H ∧ ∃ Nx : Hp → Prop, (∀ H', Nx H' → ∃ m', m' < m ∧ W (i + 1) m' H') ∧ ∀ x H', J.yld i H x H' → g x (wipe σ vs) H' fun σ2 H2 => wipe σ2 vs = wipe σ vs ∧ tYes σ2 H2 fun b H3 =>
        if b = true then te σ2 H3 fun y H4 => ∃ acc, H4 D = some (.lst acc) ∧ acc.length < sizeLine ∧ Nx (upd H4 D (.lst (acc ++ [y]))) else Nx H3) := by
  have wD : ¬ W D := fun z => hW D z nD
  refine lc_it w (fun i H => Kp W H1 H ∧ ∃ acc, H D = some (.lst acc) ∧ acc.length = i ∧ ∀ j v, acc[j]? = some v → R H j v) ⟨(Kp.refl _).upd nD, [], upd_same, rfl, fun j v e => by simp at e⟩ (fun i H _ p => hG H p.1) ?_ ?_
  · rintro i x H H' hi ⟨k, acc, eD, hl, ha⟩ y
    refine hs i x H H' _ hi k (by rw [eD]; exact fun z => nomatch z) y fun v H4 k4 r => ?_
    refine ⟨acc, k4 _ _ wD eD, sz63' (by omega), (k.trans k4).upd nD, acc ++ [v], upd_same, by rw [List.length_append, hl]; rfl, fun j u e => ?_⟩
    rw [List.getElem?_append] at e
    split at e
    · exact st _ _ _ _ (k4.D) (ha j u e)
    · have hj : j - acc.length = 0 := by
        cases q : j - acc.length with
        | zero => rfl
        | succ m =>
          rw [q] at e
          simp at e
      have hj2 : j = i := by omega
      rw [hj] at e
      obtain rfl : v = u := by simpa using e
      rw [hj2]
      exact st _ _ _ _ ((Kp.refl _).D) r
  · rintro H ⟨k, acc, eD, hl, ha⟩
    exact hd H acc k eD hl ha
theorem bls_of : ∀ {acc : List V} {bs : List Bool}, acc.length = bs.length → (∀ (i : Nat) v, acc[i]? = some v → ∃ b, v = .bl b ∧ bs[i]? = some b) → acc = bs.map V.bl
  | [], [], _, _ => rfl
  | [], _ :: _, h, _ => by simp at h
  | _ :: _, [], h, _ => by simp at h
  | v :: acc, b :: bs, h, k => by
    obtain ⟨b', rfl, e⟩ := k 0 v rfl
    have e' : b = b' := by simpa using e
    subst e'
    rw [bls_of (acc := acc) (bs := bs) (by simpa using h) fun i v e => k (i + 1) v e]
    rfl
theorem dqAll_of {W : Addr → Prop} {H : Hp} : ∀ {acc : List V} {ds : List PyData}, acc.length = ds.length → (∀ (i : Nat) v, acc[i]? = some v → ∃ d, ds[i]? = some d ∧ Dq W H v d) → DqAll W H acc ds
  | [], [], _, _ => .nil
  | [], _ :: _, h, _ => by simp at h
  | _ :: _, [], h, _ => by simp at h
  | v :: acc, d :: ds, h, k => by
    obtain ⟨d', e, hd⟩ := k 0 v rfl
    have e' : d = d' := by simpa using e
    subst e'
    exact .cons hd (dqAll_of (by simpa using h) fun i v e => k (i + 1) v e)
theorem refs_of {P : Nat → Addr → Prop} : ∀ {acc : List V}, (∀ (i : Nat) v, acc[i]? = some v → ∃ l, v = .ref l ∧ P i l) → ∃ ls : List Addr, acc = ls.map V.ref ∧ ∀ (i : Nat) l, ls[i]? = some l → P i l := by
  intro acc
  induction acc generalizing P with
  | nil => exact fun _ => ⟨[], rfl, fun i l e => by simp at e⟩
  | cons v acc ih =>
    intro h
    obtain ⟨l, rfl, p⟩ := h 0 v rfl
    obtain ⟨ls, rfl, k⟩ := ih (P := fun i => P (i + 1)) fun i v e => h (i + 1) v e
    refine ⟨l :: ls, rfl, fun i a e => ?_⟩
    cases i with
    | zero =>
      have : l = a := by simpa using e
      rw [← this]
      exact p
    | succ i => exact k i a e
/-- a list told place by place -/
theorem list_of {n : Nat} {f : Nat → V} {acc : List V} (hl : acc.length = n) (h : ∀ (i : Nat) v, acc[i]? = some v → v = f i) : acc = (List.range n).map f := by
  apply List.ext_getElem?
  intro i
  by_cases c : i < n
  · have e : acc[i]? = some acc[i] := List.getElem?_eq_getElem (by omega)
    rw [e, h i _ e, List.getElem?_map, List.getElem?_range c]
    rfl
  · rw [List.getElem?_eq_none (by omega), List.getElem?_eq_none (by rw [List.length_map, List.length_range]; omega)]
theorem DqAll.get {W : Addr → Prop} {H : Hp} {xs : List V} {ds : List PyData} (h : DqAll W H xs ds) {i : Nat} {v : V} (e : xs[i]? = some v) : ∃ d, ds[i]? = some d ∧ Dq W H v d := h.at e
/-- the things that a test lets, by name -/
theorem lc_filt {J : It} {n : Nat} {G : Hp → Prop} {Y : Nat → Hp → V → Hp → Prop} (w : Walk J n G Y) {tt : TT} {vs : List Nat} {σ : L2.St} {H1 : Hp} {D : Addr} {jx : Nat} {Qd : Hp → Prop} (P : Nat → Prop)
    (nD : H1 D = none) (hn : n ≤ 1000) (hj : ∀ x : V, (wipe σ vs).set jx (some x) = (wipe σ vs).set jx (some x) → ((wipe σ vs).set jx (some x))[jx]? = some (some x)) (hw : ∀ x : V, wipe ((wipe σ vs).set jx (some x)) vs = wipe σ vs)
    (hG : ∀ H, Same H1 H → G H) (hY : ∀ i H x H', i < n → G H → Y i H x H' → H' = H)
    (hs : ∀ (i : Nat) (x : V) (H : Hp) (T : Bool → Hp → Prop), i < n → Same H1 H → H D ≠ none → Y i H x H → (∀ b H3, (b = true ↔ P i) → Same H H3 → T b H3) → tt ((wipe σ vs).set jx (some x)) H T)
    (hd : ∀ H acc, Same H1 H → H D = some (.lst acc) → (acc = [] ↔ ∀ i, i < n → ¬ P i) → Qd H) :
    ∃ W : Nat → Nat → Hp → Prop, (∃ m, W 0 m (upd H1 D (.lst []))) ∧ ∀ i m H, W i m H →
      (J.stop i H ∧ Qd H) ∨ (J.go i H ∧ ∃ Nx : Hp → Prop, (∀ H', Nx H' → ∃ m', m' < m ∧ W (i + 1) m' H') ∧ ∀ x H', J.yld i H x H' → gName jx x (wipe σ vs) H' fun σ2 H2 => wipe σ2 vs = wipe σ vs ∧ tt σ2 H2 fun b H3 =>
        if b = true then tVar jx σ2 H3 fun y H4 => ∃ acc, H4 D = some (.lst acc) ∧ acc.length < sizeLine ∧ Nx (upd H4 D (.lst (acc ++ [y]))) else Nx H3) := by
  refine lc_it w (fun i H => Same H1 H ∧ ∃ acc, H D = some (.lst acc) ∧ acc.length ≤ i ∧ (acc = [] ↔ ∀ j, j < i → ¬ P j)) ⟨same_new nD, [], upd_same, Nat.le_refl _, by simp⟩ (fun i H _ p => hG H p.1) ?_ ?_
  · rintro i x H H' hi ⟨k, acc, eD, hl, ha⟩ y
    obtain rfl := hY i H x H' hi (hG H k) y
    refine ⟨hw x, hs i x _ _ hi k (by rw [eD]; exact fun z => nomatch z) y fun b H3 hb k3 => ?_⟩
    have eD3 := k3 _ _ eD
    cases b with
    | true =>
      rw [if_pos rfl]
      refine ⟨x, hj x rfl, acc, eD3, sz63' (by omega), same_mut (k.trans k3) nD, acc ++ [x], upd_same, by rw [List.length_append]; simp; omega, ?_⟩
      constructor
      · intro z
        simp at z
      · intro z
        exact absurd (hb.mp rfl) (z i (by omega))
    | false =>
      rw [if_neg Bool.false_ne_true]
      have hb' : ¬ P i := fun z => Bool.false_ne_true (hb.mpr z)
      refine ⟨k.trans k3, acc, eD3, by omega, ha.trans ⟨fun z j hj => ?_, fun z j hj => z j (by omega)⟩⟩
      by_cases c : j = i
      · rw [c]
        exact hb'
      · exact z j (by omega)
  · rintro H ⟨k, acc, eD, hl, ha⟩
    exact hd H acc k eD ha

theorem same_tup {K : PySem.W.Frag} {a : Addr} {H H' : Hp} {xs : List V} (k : Same H H') (s : SqT K H a xs) : SqT K H' a xs := by
  rcases s with (e | ⟨o, e⟩) | e
  · exact .inl (.inl (k _ _ e))
  · exact .inl (.inr ⟨o, k _ _ e⟩)
  · exact .inr e
/-- the numbers below n that a test lets -/
theorem lc_filtR {n : Nat} {tt : TT} {vs : List Nat} {σ : L2.St} {H1 : Hp} {D : Addr} {jx : Nat} {Qd : Hp → Prop} (p : Nat → Bool) (nD : H1 D = none) (hn : n ≤ 1000)
    (hj : ∀ x : V, (wipe σ vs).set jx (some x) = (wipe σ vs).set jx (some x) → ((wipe σ vs).set jx (some x))[jx]? = some (some x)) (hw : ∀ x : V, wipe ((wipe σ vs).set jx (some x)) vs = wipe σ vs)
    (hs : ∀ (i : Nat) (H : Hp) (T : Bool → Hp → Prop), i < n → Same H1 H → H D ≠ none → (∀ H3, Same H H3 → T (p i) H3) → tt ((wipe σ vs).set jx (some (.int i))) H T)
    (hd : ∀ H, Same H1 H → H D = some (.lst (((List.range n).filter p).map fun i : Nat => V.int i)) → Qd H) :
    ∃ W : Nat → Nat → Hp → Prop, (∃ m, W 0 m (upd H1 D (.lst []))) ∧ ∀ i m H, W i m H →
      ((Itr 0 n).stop i H ∧ Qd H) ∨ ((Itr 0 n).go i H ∧ ∃ Nx : Hp → Prop, (∀ H', Nx H' → ∃ m', m' < m ∧ W (i + 1) m' H') ∧ ∀ x H', (Itr 0 n).yld i H x H' → gName jx x (wipe σ vs) H' fun σ2 H2 => wipe σ2 vs = wipe σ vs ∧ tt σ2 H2 fun b H3 =>
        if b = true then tVar jx σ2 H3 fun y H4 => ∃ acc, H4 D = some (.lst acc) ∧ acc.length < sizeLine ∧ Nx (upd H4 D (.lst (acc ++ [y]))) else Nx H3) := by
  refine lc_it (walk_range (lo := 0) (n := n)) (fun i H => Same H1 H ∧ H D = some (.lst (((List.range i).filter p).map fun i : Nat => V.int i))) ⟨same_new nD, upd_same⟩ (fun i H _ p => trivial) ?_ (fun H ⟨s, e⟩ => hd H s e)
  rintro i x H H' hi ⟨s, eD⟩ ⟨rfl, rfl⟩
  have e0 : (0 : Int) + ((i : Nat) : Int) = ((i : Nat) : Int) := by omega
  refine ⟨hw _, ?_⟩
  dsimp only
  rw [e0]
  refine hs i _ _ hi s (by rw [eD]; exact fun z => nomatch z) fun H3 s3 => ?_
  have eD3 := s3 _ _ eD
  have er : (List.range (i + 1)).filter p = (List.range i).filter p ++ (if p i then [i] else []) := by
    rw [List.range_succ, List.filter_append]
    congr 1
    simp [List.filter_cons]
  cases hp : p i with
  | true =>
    rw [if_pos rfl]
    refine ⟨_, hj _ rfl, _, eD3, ?_, same_mut (s.trans s3) nD, ?_⟩
    · rw [List.length_map]
      have h1 := List.length_filter_le p (List.range i)
      rw [List.length_range] at h1
      exact sz63' (by omega)
    · rw [upd_same, er, hp, List.map_append]
      rfl
  | false =>
    rw [if_neg Bool.false_ne_true]
    refine ⟨s.trans s3, ?_⟩
    rw [eD3, er, hp]
    simp
theorem inV_nat (t : Nat) : ∀ S : List Nat, inV (.int t) (S.map fun i : Nat => V.int i) = decide (t ∈ S)
  | [] => rfl
  | a :: S => by
    have h : inV (.int t) ((a :: S).map fun i : Nat => V.int i) = (eqV (.int a) (.int t) || inV (.int t) (S.map fun i : Nat => V.int i)) := rfl
    rw [h, inV_nat t S]
    have h2 : eqV (.int (a : Int)) (.int (t : Int)) = decide ((a : Int) = t) := by
      unfold eqV
      simp
      try rfl
    rw [h2, ← Bool.decide_or]
    refine decide_eq_decide.mpr ⟨fun z => ?_, fun z => ?_⟩
    · rcases z with z | z
      · have : t = a := by omega
        rw [this]
        exact List.mem_cons_self
      · exact List.mem_cons_of_mem _ z
    · rcases List.mem_cons.mp z with z | z
      · exact .inl (by omega)
      · exact .inr z
theorem flat_nat (S : List Nat) : (S.map fun i : Nat => V.int i).all flatV = true := by
  rw [List.all_map, List.all_eq_true]
  exact fun _ _ => rfl
/-! ### fractions -/
def frD (q : Rat) : PyData := .tuple [.int q.num, .int q.den]
/-- the fraction q, any tuple that is read -/
def FrR (K : PySem.W.Frag) (H : Hp) (v : V) (q : Rat) : Prop := ∃ a, v = .ref a ∧ SqT K H a [.int q.num, .int q.den]
theorem Dq.tupI {W : Addr → Prop} {H : Hp} {v : V} {ds : List PyData} (h : Dq W H v (.tuple ds)) : ∃ a xs, v = .ref a ∧ ¬ W a ∧ H a = some (.tup xs) ∧ DqAll W H xs ds := by
  cases h with
  | tup n e h => exact ⟨_, _, rfl, n, e, h⟩
theorem Dq.intI {W : Addr → Prop} {H : Hp} {v : V} {i : Int} (h : Dq W H v (.int i)) : v = .int i := by
  cases h
  rfl
theorem DqAll.two {W : Addr → Prop} {H : Hp} {xs : List V} {d e : PyData} (h : DqAll W H xs [d, e]) : ∃ x y, xs = [x, y] ∧ Dq W H x d ∧ Dq W H y e := by
  cases h with
  | cons h1 t =>
    cases t with
    | cons h2 t =>
      cases t
      exact ⟨_, _, rfl, h1, h2⟩
theorem Dq.frI {W : Addr → Prop} {H : Hp} {v : V} {q : Rat} (h : Dq W H v (frD q)) : ∃ a, v = .ref a ∧ ¬ W a ∧ H a = some (.tup [.int q.num, .int q.den]) := by
  obtain ⟨a, xs, rfl, n, e, h⟩ := h.tupI
  obtain ⟨x, y, rfl, h1, h2⟩ := h.two
  rw [h1.intI, h2.intI] at e
  exact ⟨a, rfl, n, e⟩
theorem Dq.fr {W : Addr → Prop} {H : Hp} {v : V} {q : Rat} {K : PySem.W.Frag} (h : Dq W H v (frD q)) : FrR K H v q := by
  obtain ⟨a, rfl, _, e⟩ := h.frI
  exact ⟨a, rfl, .of e⟩
theorem fr_dq {W : Addr → Prop} {H : Hp} {a : Addr} {q : Rat} (n : ¬ W a) (e : H a = some (.tup [.int q.num, .int q.den])) : Dq W H (.ref a) (frD q) := .tup n e (.cons (.int _) (.cons (.int _) .nil))
theorem FrR.same {K : PySem.W.Frag} {H H' : Hp} {v : V} {q : Rat} (s : Same H H') (h : FrR K H v q) : FrR K H' v q := by
  obtain ⟨a, rfl, h⟩ := h
  exact ⟨a, rfl, same_tup s h⟩
/-- the frD of q tells q -/
theorem frD_inj {p q : Rat} (h : frD p = frD q) : p = q := by
  unfold frD at h
  simp only [PyData.tuple.injEq, List.cons.injEq, PyData.int.injEq, and_true] at h
  obtain ⟨h1, h2⟩ := h
  exact Rat.ext h1 (by omega)

/-! ### sizes of data -/
mutual
def Bd (n : Nat) : PyData → Prop
  | .int i => i.natAbs < 2 ^ n
  | .list xs => BdAll n xs
  | .tuple xs => BdAll n xs
  | _ => True
def BdAll (n : Nat) : List PyData → Prop
  | [] => True
  | d :: ds => Bd n d ∧ BdAll n ds
end
theorem bdAll_iff {n : Nat} : ∀ {ds : List PyData}, BdAll n ds ↔ ∀ d ∈ ds, Bd n d
  | [] => by simp [BdAll]
  | d :: ds => by simp [BdAll, bdAll_iff]
theorem bd_fr {n : Nat} {q : Rat} : Bd n (frD q) ↔ Bq.Sz n q := by
  simp [frD, Bd, BdAll, Bq.Sz]
end Bw
/-! Part 8. Fractions, rows, tables, walks among all data; what leads where. Plain mathematics. -/
namespace Bw
open PySem

def isNum : PyData → Bool
  | .int _ => true
  | _ => false
def isFr : PyData → Bool
  | .tuple [.int a, .int b] => decide (0 < b) && decide (Nat.gcd a.natAbs b.natAbs = 1)
  | _ => false
def isFr0 : PyData → Bool
  | .tuple [.int a, .int b] => decide (0 < b) && decide (Nat.gcd a.natAbs b.natAbs = 1) && decide (0 ≤ a)
  | _ => false
def isRow (k : Nat) : PyData → Bool
  | .tuple ds => decide (ds.length = k) && ds.all isFr0
  | _ => false
def isTable : PyData → Bool
  | .tuple ds => decide (1 ≤ ds.length ∧ ds.length ≤ 6) && ds.all (isRow ds.length)
  | _ => false
def rowD (r : List Rat) : PyData := .tuple (r.map frD)
def tabD (m : List (List Rat)) : PyData := .tuple (m.map rowD)
/-- a table of 1 to 6 places -/
structure Tab (m : List (List Rat)) : Prop where
  l1 : 1 ≤ m.length
  l6 : m.length ≤ 6
  rows : ∀ r ∈ m, r.length = m.length
  nil : ∀ r ∈ m, ∀ q ∈ r, 0 ≤ q

theorem isFr_iff {d : PyData} : isFr d = true ↔ ∃ q, d = frD q := by
  constructor
  · intro h
    unfold isFr at h
    split at h
    · rename_i a b
      simp only [Bool.and_eq_true, decide_eq_true_eq] at h
      obtain ⟨q, rfl, rfl⟩ := (Bq.low_iff h.1).mp h.2
      exact ⟨q, rfl⟩
    · cases h
  · rintro ⟨q, rfl⟩
    have h1 := Bq.den_pos q
    have h2 := (Bq.low_iff (a := q.num) h1).mpr ⟨q, rfl, rfl⟩
    unfold isFr frD
    simp only [h1, decide_true, Bool.true_and, decide_eq_true_eq]
    exact h2
theorem isFr0_iff {d : PyData} : isFr0 d = true ↔ ∃ q : Rat, d = frD q ∧ 0 ≤ q := by
  constructor
  · intro h
    unfold isFr0 at h
    split at h
    · rename_i a b
      simp only [Bool.and_eq_true, decide_eq_true_eq] at h
      obtain ⟨q, rfl, rfl⟩ := (Bq.low_iff h.1.1).mp h.1.2
      exact ⟨q, rfl, Bq.num_nonneg.mp h.2⟩
    · cases h
  · rintro ⟨q, rfl, h⟩
    have h1 := Bq.den_pos q
    have h2 := (Bq.low_iff (a := q.num) h1).mpr ⟨q, rfl, rfl⟩
    unfold isFr0 frD
    simp only [h1, decide_true, Bool.true_and, Bool.and_eq_true, decide_eq_true_eq]
    exact ⟨h2, Bq.num_nonneg.mpr h⟩
theorem all_fr0 : ∀ {ds : List PyData}, ds.all isFr0 = true → ∃ r : List Rat, ds = r.map frD ∧ ∀ q ∈ r, 0 ≤ q
  | [], _ => ⟨[], rfl, fun q h => by simp at h⟩
  | d :: ds, h => by
    rw [List.all_cons, Bool.and_eq_true] at h
    obtain ⟨q, rfl, h0⟩ := isFr0_iff.mp h.1
    obtain ⟨r, rfl, hr⟩ := all_fr0 h.2
    exact ⟨q :: r, rfl, fun x hx => by
      rcases List.mem_cons.mp hx with rfl | hx
      · exact h0
      · exact hr x hx⟩
theorem isRow_iff {k : Nat} {d : PyData} : isRow k d = true ↔ ∃ r : List Rat, d = rowD r ∧ r.length = k ∧ ∀ q ∈ r, 0 ≤ q := by
  constructor
  · intro h
    unfold isRow at h
    split at h
    · rename_i ds
      simp only [Bool.and_eq_true, decide_eq_true_eq] at h
      obtain ⟨r, rfl, hr⟩ := all_fr0 h.2
      exact ⟨r, rfl, by rw [← h.1, List.length_map], hr⟩
    · cases h
  · rintro ⟨r, rfl, rfl, h⟩
    unfold isRow rowD
    simp only [List.length_map, decide_true, Bool.true_and, List.all_eq_true, List.mem_map]
    rintro d ⟨q, hq, rfl⟩
    exact isFr0_iff.mpr ⟨q, rfl, h q hq⟩
theorem all_row {k : Nat} : ∀ {ds : List PyData}, ds.all (isRow k) = true → ∃ m : List (List Rat), ds = m.map rowD ∧ ∀ r ∈ m, r.length = k ∧ ∀ q ∈ r, 0 ≤ q
  | [], _ => ⟨[], rfl, fun q h => by simp at h⟩
  | d :: ds, h => by
    rw [List.all_cons, Bool.and_eq_true] at h
    obtain ⟨r, rfl, hl, h0⟩ := isRow_iff.mp h.1
    obtain ⟨m, rfl, hm⟩ := all_row h.2
    exact ⟨r :: m, rfl, fun x hx => by
      rcases List.mem_cons.mp hx with rfl | hx
      · exact ⟨hl, h0⟩
      · exact hm x hx⟩
theorem isTable_iff {d : PyData} : isTable d = true ↔ ∃ m, d = tabD m ∧ Tab m := by
  constructor
  · intro h
    unfold isTable at h
    split at h
    · rename_i ds
      simp only [Bool.and_eq_true, decide_eq_true_eq] at h
      obtain ⟨m, e, hm⟩ := all_row h.2
      have hl : ds.length = m.length := by rw [e, List.length_map]
      refine ⟨m, by rw [e]; rfl, ⟨by omega, by omega, fun r hr => by rw [(hm r hr).1, hl], fun r hr => (hm r hr).2⟩⟩
    · cases h
  · rintro ⟨m, rfl, T⟩
    unfold isTable tabD
    simp only [List.length_map, Bool.and_eq_true, decide_eq_true_eq, List.all_eq_true, List.mem_map]
    refine ⟨⟨T.l1, T.l6⟩, ?_⟩
    rintro d ⟨r, hr, rfl⟩
    exact isRow_iff.mpr ⟨r, rfl, T.rows r hr, T.nil r hr⟩
theorem map_inj {α β : Type} {f : α → β} (h : ∀ a b, f a = f b → a = b) : ∀ {l m : List α}, l.map f = m.map f → l = m
  | [], [], _ => rfl
  | [], _ :: _, e => by simp at e
  | _ :: _, [], e => by simp at e
  | a :: l, b :: m, e => by
    simp only [List.map_cons, List.cons.injEq] at e
    rw [h a b e.1, map_inj h e.2]
theorem rowD_inj {r s : List Rat} (h : rowD r = rowD s) : r = s := by
  unfold rowD at h
  simp only [PyData.tuple.injEq] at h
  exact map_inj (fun _ _ => frD_inj) h
theorem tabD_inj {m n : List (List Rat)} (h : tabD m = tabD n) : m = n := by
  unfold tabD at h
  simp only [PyData.tuple.injEq] at h
  exact map_inj (fun _ _ => rowD_inj) h

theorem bd_row {n : Nat} {r : List Rat} : Bd n (rowD r) ↔ ∀ q ∈ r, Bq.Sz n q := by
  unfold rowD
  rw [Bd, bdAll_iff]
  constructor
  · intro h q hq
    exact bd_fr.mp (h _ (List.mem_map.mpr ⟨q, hq, rfl⟩))
  · rintro h d hd
    obtain ⟨q, hq, rfl⟩ := List.mem_map.mp hd
    exact bd_fr.mpr (h q hq)
theorem bd_tab {n : Nat} {m : List (List Rat)} : Bd n (tabD m) ↔ ∀ r ∈ m, ∀ q ∈ r, Bq.Sz n q := by
  unfold tabD
  rw [Bd, bdAll_iff]
  constructor
  · intro h r hr
    exact bd_row.mp (h _ (List.mem_map.mpr ⟨r, hr, rfl⟩))
  · rintro h d hd
    obtain ⟨r, hr, rfl⟩ := List.mem_map.mp hd
    exact bd_row.mpr (h r hr)
theorem map_some {α β : Type} {f : α → β} {l : List α} {i : Nat} {y : β} (h : (l.map f)[i]? = some y) : ∃ x, l[i]? = some x ∧ f x = y := by
  rw [List.getElem?_map] at h
  cases z : l[i]? with
  | none =>
    rw [z] at h
    cases h
  | some x =>
    rw [z] at h
    exact ⟨x, rfl, Option.some.inj h⟩
/-! ### what leads where -/
inductive Reach (E : Nat → Nat → Prop) (a : Nat) : Nat → Prop
  | refl : Reach E a a
  | step {b c : Nat} : Reach E a b → E b c → Reach E a c
theorem Reach.trans {E : Nat → Nat → Prop} {a b c : Nat} (h : Reach E a b) (k : Reach E b c) : Reach E a c := by
  induction k with
  | refl => exact h
  | step _ e ih => exact .step ih e
theorem Reach.one {E : Nat → Nat → Prop} {a b : Nat} (h : E a b) : Reach E a b := .step .refl h
theorem Reach.back {E : Nat → Nat → Prop} {a b : Nat} (h : Reach (fun x y => E y x) a b) : Reach E b a := by
  induction h with
  | refl => exact .refl
  | step _ e ih => exact (Reach.one (E := E) e).trans ih
theorem Reach.mono {E F : Nat → Nat → Prop} {a b : Nat} (m : ∀ x y, E x y → F x y) (h : Reach E a b) : Reach F a b := by
  induction h with
  | refl => exact .refl
  | step _ e ih => exact .step ih (m _ _ e)
/-- what has the start, only what it leads to, and all that this leads to, is all of that -/
theorem reach_of {E : Nat → Nat → Prop} {a : Nat} {S : Nat → Prop} (h0 : S a) (hs : ∀ x y, S x → E x y → S y) {b : Nat} (h : Reach E a b) : S b := by
  induction h with
  | refl => exact h0
  | step _ e ih => exact hs _ _ ih e
theorem nodup_len : ∀ (n : Nat) (l : List Nat), l.Nodup → (∀ x ∈ l, x < n) → l.length ≤ n ∧ (l.length = n → ∀ j, j < n → j ∈ l)
  | 0, l, _, h => by
    cases l with
    | nil => exact ⟨Nat.le_refl _, fun _ j hj => absurd hj (Nat.not_lt_zero j)⟩
    | cons a l => exact absurd (h a List.mem_cons_self) (Nat.not_lt_zero a)
  | n + 1, l, nd, h => by
    by_cases c : n ∈ l
    · have hl := List.length_erase_of_mem c
      have hp : 0 < l.length := List.length_pos_of_mem c
      obtain ⟨h1, h2⟩ := nodup_len n (l.erase n) (nd.erase n) fun x hx => by
        have h3 := h x (List.mem_of_mem_erase hx)
        have h4 : x ≠ n := fun e => by
          rw [e] at hx
          exact (List.Nodup.not_mem_erase nd) hx
        omega
      refine ⟨by omega, fun e j hj => ?_⟩
      by_cases c2 : j = n
      · rw [c2]
        exact c
      · exact List.mem_of_mem_erase (h2 (by omega) j (by omega))
    · obtain ⟨h1, h2⟩ := nodup_len n l nd fun x hx => by
        have h3 := h x hx
        have h4 : x ≠ n := fun e => c (by rw [← e]; exact hx)
        omega
      exact ⟨by omega, fun e => by omega⟩
/-- the chance from a to b is above 0 -/
def Ed (m : List (List Rat)) (a b : Nat) : Prop := ∃ r q, m[a]? = some r ∧ r[b]? = some q ∧ 0 < q
def Strong (m : List (List Rat)) : Prop := ∀ a b, a < m.length → b < m.length → Reach (Ed m) a b
def IsWalk (d : PyData) : Prop := ∃ m, d = tabD m ∧ Tab m ∧ Strong m ∧ ∀ r ∈ m, Bq.sumQ r = 1
theorem strong_iff {m : List (List Rat)} (h : 1 ≤ m.length) : Strong m ↔ (∀ j, j < m.length → Reach (Ed m) 0 j) ∧ ∀ j, j < m.length → Reach (fun x y => Ed m y x) 0 j := by
  constructor
  · intro s
    refine ⟨fun j hj => s 0 j (by omega) hj, fun j hj => ?_⟩
    exact Reach.back (E := fun x y => Ed m y x) (s j 0 hj (by omega))
  · rintro ⟨h1, h2⟩ a b ha hb
    exact (Reach.back (h2 a ha)).trans (h1 b hb)
/-- the chances above 0, as truths -/
def posB (m : List (List Rat)) (i j : Nat) : Bool := match m[i]? with
  | some r => match r[j]? with
    | some q => decide (0 < q)
    | none => false
  | none => false
def LE (n : Nat) (B : Nat → Nat → Bool) : Nat → Nat → Prop := fun x y => x < n ∧ y < n ∧ B x y = true
theorem posB_of {m : List (List Rat)} {i j : Nat} {r : List Rat} {q : Rat} (h : m[i]? = some r) (k : r[j]? = some q) : posB m i j = decide (0 < q) := by
  unfold posB
  rw [h]
  dsimp only
  rw [k]
theorem ed_iff {m : List (List Rat)} (T : Tab m) {a b : Nat} : Ed m a b ↔ LE m.length (posB m) a b := by
  constructor
  · rintro ⟨r, q, h1, h2, h3⟩
    have ha := (List.getElem?_eq_some_iff.mp h1).1
    have hb := (List.getElem?_eq_some_iff.mp h2).1
    rw [T.rows r (List.mem_of_getElem? h1)] at hb
    exact ⟨ha, hb, by rw [posB_of h1 h2]; exact decide_eq_true h3⟩
  · rintro ⟨h1, h2, h3⟩
    have e1 : m[a]? = some m[a] := List.getElem?_eq_getElem h1
    have hl := T.rows _ (List.mem_of_getElem? e1)
    have e2 : m[a][b]? = some (m[a][b]'(by omega)) := List.getElem?_eq_getElem (by omega)
    rw [posB_of e1 e2] at h3
    exact ⟨_, _, e1, e2, of_decide_eq_true h3⟩
theorem strong_by {m : List (List Rat)} (T : Tab m) : Strong m ↔ (∀ j, j < m.length → Reach (LE m.length (posB m)) 0 j) ∧ ∀ j, j < m.length → Reach (LE m.length fun x y => posB m y x) 0 j := by
  rw [strong_iff T.l1]
  refine and_congr (forall_congr' fun j => imp_congr_right fun _ => ⟨Reach.mono fun x y e => (ed_iff T).mp e, Reach.mono fun x y e => (ed_iff T).mpr e⟩) (forall_congr' fun j => imp_congr_right fun _ => ⟨Reach.mono fun x y e => ?_, Reach.mono fun x y e => ?_⟩)
  · obtain ⟨h1, h2, h3⟩ := (ed_iff T).mp e
    exact ⟨h2, h1, h3⟩
  · obtain ⟨h1, h2, h3⟩ := e
    exact (ed_iff T).mpr ⟨h2, h1, h3⟩
theorem Ed.lt {m : List (List Rat)} (T : Tab m) {a b : Nat} (h : Ed m a b) : a < m.length ∧ b < m.length := by
  obtain ⟨r, q, h1, h2, _⟩ := h
  have ha := (List.getElem?_eq_some_iff.mp h1).1
  have hb := (List.getElem?_eq_some_iff.mp h2).1
  rw [T.rows r (List.mem_of_getElem? h1)] at hb
  exact ⟨ha, hb⟩
end Bw
/-! Part 9. The rules within a comprehension's element, where the frame is known by name. -/
namespace Bw
open PySem PySem.Spec PyProof.Rows L2
section
variable {X : Cx} {K : PySem.W.Frag} (h : X.K = K)
include h
theorem call_lenK : CallR X (.builtin "len") (fun xs H Q => ∃ p ys, xs = [.ref p] ∧ (SqL K H p ys ∨ SqT K H p ys) ∧ Q (.int ys.length) H) := by
  subst h
  exact call_len_seq
theorem ix_listK : IxR X (rIxL K) := by
  subst h
  exact ix_list
theorem ix_tupK : IxR X (rIxT K) := by
  subst h
  exact ix_tup
theorem ix_seqK : IxR X (rIx K) := by
  subst h
  exact ix_seq
theorem cr_allK (hc : X.calm = true) : CallR X (.builtin "all") (rAll K) := by
  subst h
  exact cr_all hc
theorem call_tupK : CallR X (.type "tuple") (fun xs H Q => ∃ p ys, xs = [.ref p] ∧ ((SqL K H p ys ∧ ∀ l, H l = none → Q (.ref l) (upd H l (.tup ys))) ∨ (SqT K H p ys ∧ Q (.ref p) H))) := by
  subst h
  exact call_tuple_of
theorem call_lstK : CallR X (.type "list") (fun xs H Q => ∃ p ys, xs = [.ref p] ∧ (SqL K H p ys ∨ SqT K H p ys) ∧ ∀ l, H l = none → Q (.ref l) (upd H l (.lst ys))) := by
  subst h
  exact call_list_of
theorem op_inK : OpR X (compareOp .In) (rIn K false) := by
  subst h
  exact op_in_seq
theorem op_notInK : OpR X (compareOp .NotIn) (rIn K true) := by
  subst h
  exact op_notIn_seq
theorem op_catAK : OpR X (binaryOp .Add) (rCatA K) := by
  subst h
  exact op_catA
theorem op_repTK : OpR X (binaryOp .Mult) (rRepT K) := by
  subst h
  exact op_repT
theorem sl_tupAK : SlR X (rSlA K) := by
  subst h
  exact sl_tupA
theorem sl_listK : SlR X (rSlL K) := by
  subst h
  exact sl_list
theorem op_eqDK (hu : X.A.units + 64 < cLine) : OpR X (compareOp .Eq) (rEqD K) := by
  subst h
  exact op_eqD hu
theorem op_neDK (hu : X.A.units + 64 < cLine) : OpR X (compareOp .NotEq) (rNeD K) := by
  subst h
  exact op_neD hu
theorem pi_tupK {tg l : Expr} {tl : TE} (hl : PE X l tl) : PI X tg l (iTup K tl) := by
  subst h
  exact pi_tup hl
theorem pi_listK {tg l : Expr} {tl : TE} (hl : PE X l tl) : PI X tg l (iList K tl) := by
  subst h
  exact pi_list hl
end

/-! ### one fraction compared with another -/
theorem fr_dp {K : PySem.W.Frag} {H : Hp} {v : V} {q : Rat} (h : FrR K H v q) : Dp K H v (frD q) := by
  obtain ⟨a, rfl, h⟩ := h
  exact .tup h (.cons (.int _) (.cons (.int _) .nil))
theorem fr_shaped (q : Rat) : SeqAt.shaped (frD q) = true := by
  unfold SeqAt.shaped frD
  simp [PyData.canLay0, PyData.canLayAll0, PyData.depth, PyData.depthAll]
theorem fr_eqv (p q : Rat) : PyData.eqv (frD p) (frD q) = decide (p = q) := by
  unfold frD
  have h : (p = q) ↔ (p.num = q.num ∧ (p.den : Int) = q.den) := ⟨fun z => by rw [z]; exact ⟨rfl, rfl⟩, fun z => Rat.ext z.1 (by omega)⟩
  have e : PyData.eqv (.tuple [.int p.num, .int p.den]) (.tuple [.int q.num, .int q.den]) = (decide (p.num = q.num) && decide ((p.den : Int) = q.den)) := by
    simp [PyData.eqv, PyData.eqvAll]
    try rfl
  rw [e, ← Bool.decide_and]
  exact decide_eq_decide.mpr h.symm
end Bw
/-! The well of drawn numbers: what the law draws from. -/
namespace Kx
open PySem PySem.Spec PyProof.Rows L2 Bw

def topS (i : Nat) : Stmt := PySem.Challenge.pw_backwalks_k23_whole_foster_and_there_and.main.body.getD i (.Pass ⟨0, 0, 0, 0⟩)

/-- the built-ins that the text calls are still those -/
structure Mb (mg : Str → Option Value) : Prop where
  int : mg "int" = none
  len : mg "len" = none
  abs : mg "abs" = none
  divmod : mg "divmod" = none
  range : mg "range" = none
  enumerate : mg "enumerate" = none
  isinstance : mg "isinstance" = none
  repr : mg "repr" = none
  tuple : mg "tuple" = none
  list : mg "list" = none
  all : mg "all" = none
  zip : mg "zip" = none
  str : mg "str" = none
  bool : mg "bool" = none
  set : mg "set" = none
  min : mg "min" = none
  max : mg "max" = none
  sorted : mg "sorted" = none

abbrev s_law_well : Stmt := topS 43
abbrev n_law_well : List Str := ["script", "salt", "stir", "cell"]
theorem c_law_well : FnScope n_law_well ["script", "salt"] (defScope s_law_well) :=
  ⟨rfl, rfl, rfl, by decide +kernel, rfl, by decide +kernel, by decide +kernel⟩

abbrev s_law_pick : Stmt := topS 44
abbrev n_law_pick : List Str := ["well", "limit", "rest", "digit"]
theorem c_law_pick : FnScope n_law_pick ["well", "limit"] (defScope s_law_pick) :=
  ⟨rfl, rfl, rfl, by decide +kernel, rfl, by decide +kernel, by decide +kernel⟩

abbrev s_law_of : Stmt := topS 45
abbrev n_law_of : List Str := ["well", "some"]
theorem c_law_of : FnScope n_law_of ["well", "some"] (defScope s_law_of) :=
  ⟨rfl, rfl, rfl, by decide +kernel, rfl, by decide +kernel, by decide +kernel⟩


/-- the well at w -/
def WellAt (w l : Addr) (H : Hp) : Prop := ∃ (st n : Int) (ns : List Int), H w = some (.lst [.ref l, .int st, .int n]) ∧ l ≠ w ∧
  H l = some (.lst (ns.map V.int)) ∧ ns.length ≤ 63
def IsWell (w : Addr) (H : Hp) : Prop := ∃ l : Addr, WellAt w l H
abbrev At (w : Addr) : Addr → Prop := fun a => a = w

section
variable {P : Program} {w : World} {K : PySem.W.Frag} {mg : Str → Option Value} {base : Heap}

def spWell (K : PySem.W.Frag) : Sp := fun vs H Q _ => ∃ (a : Addr) (ns : List Int) (salt : Int), vs = [.ref a, .int salt] ∧ SqL K H a (ns.map V.int) ∧ ns.length ≤ 63 ∧
  ∀ (H' : Hp) (w : Addr), H w = none → Same H H' → IsWell w H' → Q (.ref w) H'
theorem cut63 {ns : List Int} (h : ns.length ≤ 63) : cutV (ns.map V.int) none (some 63) = ns.map V.int := by
  unfold cutV
  rw [HT.sIx_none, show HT.sIx (ns.map V.int).length (ns.map V.int).length (some 63) = min 63 (ns.map V.int).length from HT.sIx_nat _ _ 63]
  rw [List.drop_zero, Nat.sub_zero, List.length_map]
  exact List.take_of_length_le (by rw [List.length_map]; omega)
theorem ok_well {f : Addr} {fd : FuncData} (F : Fun K "_law_well" "_law_well" s_law_well f fd) (M : Mb mg) : FnOk P w K mg base CX0 1 f fd ["script", "salt"] (spWell K) := by
  refine F.ok c_law_well (fun vs H Q E h => ?_) (fun cdv A outer s H vs Q E hr h => ?_)
  · obtain ⟨a, ns, salt, rfl, _⟩ := h
    rfl
  · obtain ⟨a, ns, salt, rfl, hS, hlen, q⟩ := h
    refine ⟨_, (pss_cons (ps_set (i := 2) c_law_well.nd rfl (.inl rfl) (pe_op op_add pe_int (pe_op op_mul pe_int (pv 1))))
 (pss_cons (ps_for PassesOwn.never rfl (pi_list (pe_slice sl_list (pv 0) po_none (po_some pe_int))) (pg_name (i := 3) c_law_well.nd rfl (.inl rfl))
 (pss_one (ps_set (i := 2) c_law_well.nd rfl (.inl rfl) (pe_op op_mod (pe_callTy call_int1 (by rfl) M.int (by decide +kernel) (pa_cons (pe_op op_add (pe_op op_add (pe_op op_mul (pv 2) pe_int) (pe_op op_mul (pe_op op_mod (pe_callTy call_int1 (by rfl) M.int (by decide +kernel) (pa_cons (pv 3) pa_nil)) pe_int) pe_int)) pe_int) pa_nil)) pe_int))))
 (pss_one (ps_ret (pe_lst (pa_cons (pe_lc (own := [("cell", 3)]) rfl c_law_well.nd (pi_list (pe_slice sl_list (pv 0) po_none (po_some pe_int))) (blkOk_by (own := [("cell", 3)]) (N := n_law_well) (sc := defScope s_law_well) (by decide +kernel)) (fun _ _ _ _ _ => (pg_name (i := 3) c_law_well.nd rfl (.inl rfl))) (fun _ _ _ _ _ => (pts_one (PW.pt (pw_or (pt_cmpR op_lt (pv 3) pe_int (nomark _)) (pw_or1 (pt_cmpR op_ge (pv 3) (pe_op op_pow pe_int pe_int) (nomark _))))))) (fun _ _ _ _ _ => (pe_callB (id := "abs") call_abs (by rfl) M.abs (by decide +kernel) (pa_cons (pv 3) pa_nil)))) (pa_cons (pv 2) (pa_cons pe_int pa_nil)))))))), ?_⟩
    refine ⟨_, rfl, _, _, rfl, rfl, .inl ⟨by decide, by decide⟩, _, _, rfl, rfl, ?_⟩
    -- for cell in script[:63]
    refine ⟨.ref a, rfl, 63, rfl, a, _, rfl, hS, fun c nc => ?_⟩
    rw [cut63 hlen]
    have s1 : Same H (upd H c (.lst (ns.map V.int))) := same_new nc
    refine ⟨c, rfl, ⟨_, .inl (.inl upd_same)⟩, for_list (K := K) (a := c) (xs := ns.map V.int)
      (fun i σ H' => ∃ (z : Int) (y : Option V), σ = [some (.ref a), some (.int salt), some (.int z), y] ∧ H' = upd H c (.lst (ns.map V.int)))
      ⟨_, none, rfl, rfl⟩ (fun i σ H' _ ⟨_, _, _, e⟩ => .inl (.inl (by rw [e]; exact upd_same))) ?_ ?_⟩
    · rintro i y σ H' hi ⟨z, y0, rfl, rfl⟩
      obtain ⟨x, hx, rfl⟩ := map_at hi
      refine ⟨_, rfl, _, _, rfl, rfl, .inr ⟨by decide, by decide⟩, ?_⟩
      refine ⟨_, rfl, .inl ⟨_, rfl, ?_⟩⟩
      refine ⟨_, _, rfl, rfl, (by show (0 : Int) < 2147483587; decide), ?_⟩
      refine ⟨_, _, rfl, rfl, .inr ⟨by decide, by decide⟩, ?_⟩
      refine ⟨_, _, rfl, rfl, _, _, rfl, rfl, .inl ⟨_, rfl, ?_⟩⟩
      exact ⟨_, _, rfl, rfl, (by show (0 : Int) < 2147483647; decide), _, _, rfl, rfl⟩
    · rintro σ H' ⟨z, y0, rfl, rfl⟩
      -- [[abs(cell) ..], stir, 0]
      refine ⟨.ref a, rfl, 63, rfl, a, _, rfl, s1.seq hS, fun c2 nc2 => ?_⟩
      rw [cut63 hlen]
      have s2 := s1.trans (same_new (o := .lst (ns.map V.int)) nc2)
      refine ⟨c2, rfl, ⟨_, .inl (.inl upd_same)⟩, fun D nD => ?_⟩
      refine lc_list (K := K) (a := c2) (xs := ns.map V.int)
        (fun i H' => ∃ ms : List Int, ms.length ≤ i ∧ H' D = some (.lst (ms.map V.int)) ∧ Same H H' ∧ H' c2 = some (.lst (ns.map V.int)))
        ⟨[], Nat.le_refl _, upd_same, s2.trans (same_new nD), ?_⟩ (fun i H' _ ⟨_, _, _, _, e⟩ => .inl (.inl e)) ?_ ?_
      · rw [upd_ne (ne_of_none upd_same nD)]
        exact upd_same
      · rintro i x H' hi ⟨ms, hm, eD, sm, e2⟩
        have hil : i < ns.length := by
          have := (List.getElem?_eq_some_iff.mp hi).1
          rwa [List.length_map] at this
        obtain ⟨x, hx, rfl⟩ := map_at hi
        refine ⟨rfl, ?_⟩
        have keepD : ∀ {y : V} {H1 : Hp}, H1 = H' → (∃ m, y = V.int m) → ∃ acc, H1 D = some (.lst acc) ∧ acc.length < sizeLine ∧
            ∃ ms : List Int, ms.length ≤ i + 1 ∧ (upd H1 D (.lst (acc ++ [y]))) D = some (.lst (ms.map V.int)) ∧ Same H (upd H1 D (.lst (acc ++ [y]))) ∧
              (upd H1 D (.lst (acc ++ [y]))) c2 = some (.lst (ns.map V.int)) := by
          rintro y H1 rfl ⟨m, rfl⟩
          refine ⟨_, eD, sz63' (by rw [List.length_map]; omega), ms ++ [m], by rw [List.length_append, List.length_singleton]; omega, ?_, ?_, ?_⟩
          · rw [upd_same, List.map_append]
            rfl
          · exact same_mut sm ((s2.free nD))
          · rw [upd_ne (ne_of_none upd_same nD)]
            exact e2
        have stay : ∃ ms : List Int, ms.length ≤ i + 1 ∧ H' D = some (.lst (ms.map V.int)) ∧ Same H H' ∧ H' c2 = some (.lst (ns.map V.int)) := ⟨ms, by omega, eD, sm, e2⟩
        refine ⟨_, rfl, _, _, rfl, rfl, _, rfl, ite2 (fun _ => ?_) (fun _ => ?_)⟩
        · refine iteT ?_
          exact ⟨_, rfl, _, rfl, keepD rfl ⟨_, rfl⟩⟩
        · refine ⟨_, rfl, _, _, rfl, rfl, ⟨by decide, by decide, by decide⟩, _, _, rfl, rfl, _, rfl, ite2 (fun _ => ?_) (fun _ => ?_)⟩
          · exact ⟨_, rfl, _, rfl, keepD rfl ⟨_, rfl⟩⟩
          · exact stay
      · rintro H' ⟨ms, hm, eD, sm, _⟩
        rw [List.length_map] at hm
        refine ⟨_, rfl, sz63 (by show 3 ≤ 1000; decide), fun v nv => ?_⟩
        have nDv : D ≠ v := ne_of_none eD nv
        refine q _ v (sm.free nv) (sm.trans (same_new nv)) ⟨D, _, _, ms, upd_same, nDv, ?_, by omega⟩
        rw [upd_ne nDv]
        exact eD

/-! ### a number is drawn -/
def spPickL : Sp := fun vs H Q _ => ∃ (w l : Addr) (limit : Int), vs = [.ref w, .int limit] ∧ 0 < limit ∧ limit < 1073741824 ∧ WellAt w l H ∧
  ∀ (H' : Hp) (d : Int) (l' : Addr), 0 ≤ d → d < limit → Kp (At w) H H' → WellAt w l' H' → (l' = l ∨ H l' = none) → Q (.int d) H'
def spPick : Sp := fun vs H Q _ => ∃ (w : Addr) (limit : Int), vs = [.ref w, .int limit] ∧ 0 < limit ∧ limit < 1073741824 ∧ IsWell w H ∧
  ∀ (H' : Hp) (d : Int), 0 ≤ d → d < limit → Kp (At w) H H' → IsWell w H' → Q (.int d) H'
theorem kp_free {w m : Addr} {H H' : Hp} (k : Kp (At w) H H') (h : H' m = none) (ne : m ≠ w) : H m = none := by
  cases e : H m with
  | none => rfl
  | some o =>
    rw [k m o ne e] at h
    cases h
/-- the same def under a weaker promise -/
theorem weaken {P : Program} {w : World} {K : PySem.W.Frag} {mg : Str → Option Value} {base : Heap} {CX : CXT} {k : Nat} {f : Addr} {fd : FuncData} {ps : List Str} {sp sp' : Sp} (F : FnOk P w K mg base CX k f fd ps sp)
    (h : ∀ vs H Q E, sp' vs H Q E → sp vs H Q E) : FnOk P w K mg base CX k f fd ps sp' :=
  ⟨fun vs H Q E z => F.len vs H Q E (h vs H Q E z), fun A outer s H args us vs Q E hr he hb hv hs => F.run A outer s H args us vs Q E hr he hb hv (h vs H Q E hs)⟩
theorem ints_lay : ∀ ns : List Int, PyData.canLayAll0 (ns.map PyData.int) = true
  | [] => by simp [PyData.canLayAll0]
  | n :: r => by simp [PyData.canLayAll0, PyData.canLay0, ints_lay r]
theorem ints_depth : ∀ ns : List Int, PyData.depthAll (ns.map PyData.int) = 0
  | [] => by simp [PyData.depthAll]
  | n :: r => by simp [PyData.depthAll, PyData.depth, ints_depth r]
theorem ints_shaped (ns : List Int) : SeqAt.shaped (.list (ns.map PyData.int)) = true := by
  unfold SeqAt.shaped
  have h1 : (PyData.list (ns.map PyData.int)).canLay0 = true := by
    simp only [PyData.canLay0]
    exact ints_lay ns
  have h2 : (PyData.list (ns.map PyData.int)).depth ≤ 64 := by
    simp only [PyData.depth]
    rw [ints_depth]
    omega
  rw [h1, decide_eq_true h2]
  rfl
theorem ints_dp {K : PySem.W.Frag} {H : Hp} : ∀ ns : List Int, DpAll K H (ns.map V.int) (ns.map PyData.int)
  | [] => .nil
  | n :: r => .cons (.int n) (ints_dp r)
theorem ints_nil (ns : List Int) : PyData.eqv (.list (ns.map PyData.int)) (.list []) = ns.isEmpty := by
  cases ns with
  | nil => decide +kernel
  | cons n r => simp [PyData.eqv, PyData.eqvAll]
theorem cutTail {n : Int} {ns : List Int} : cutV ((n :: ns).map V.int) (some 1) none = ns.map V.int := by
  unfold cutV
  rw [show HT.sIx ((n :: ns).map V.int).length 0 (some 1) = min 1 ((n :: ns).map V.int).length from HT.sIx_nat _ _ 1, HT.sIx_none]
  have e : min 1 ((n :: ns).map V.int).length = 1 := by
    rw [List.length_map, List.length_cons]
    omega
  rw [e]
  show List.take (((n :: ns).map V.int).length - 1) (ns.map V.int) = _
  exact List.take_of_length_le (by rw [List.length_map, List.length_map, List.length_cons]; omega)

theorem kp_new {w : Addr} {H : Hp} {p : Addr} {o : HO} (h : H p = none) : Kp (At w) H (upd H p o) := Kp.new h
theorem ok_pickL {f : Addr} {fd : FuncData} (F : Fun K "_law_pick" "_law_pick" s_law_pick f fd) (M : Mb mg) : FnOk P w K mg base CX0 1 f fd ["well", "limit"] spPickL := by
  refine F.ok c_law_pick (fun vs H Q E h => ?_) (fun cdv A outer s H vs Q E hr h => ?_)
  · obtain ⟨w, l, limit, rfl, _⟩ := h
    rfl
  · obtain ⟨w, l, limit, rfl, hl, hl2, ⟨st, n, ns, hw, hne, hL, hlen⟩, q⟩ := h
    have hu : (A.deeper (envOfC "_law_pick" (defScope s_law_pick) s.heap.objs.size f cdv)).units + 64 < cLine := hr.units
    refine ⟨_, (pss_cons (ps_if (pt_cmpR (op_neD hu) (pe_ix ix_list (pv 0) pe_int (fun _ _ => rfl)) (pe_lst pa_nil) (nomark _))
 (pss_cons (ps_asg (pe_callB call_divmodW (by rfl) M.divmod (by decide +kernel) (pa_cons (pe_ix ix_list (pe_ix ix_list (pv 0) pe_int (fun _ _ => rfl)) pe_int (fun _ _ => rfl)) (pa_cons (pv 1) pa_nil))) (pg_tup rfl (pgs_cons (pg_name (i := 2) c_law_pick.nd rfl (.inl rfl)) (pgs_cons (pg_name (i := 3) c_law_pick.nd rfl (.inl rfl)) pgs_nil))))
 (pss_cons (ps_asg (pe_op op_cat (pe_ifExp (pt_cmpR op_gt (pv 2) pe_int (nomark _)) (pe_lst (pa_cons (pv 2) pa_nil)) (pe_lst pa_nil)) (pe_slice sl_list (pe_ix ix_list (pv 0) pe_int (fun _ _ => rfl)) (po_some pe_int) po_none)) (pg_sub (pv 0) pe_int set_list))
 (pss_one (ps_ret (pv 3)))))
 pss_nil)
 (pss_cons (ps_asg (pe_op op_add (pe_ix ix_list (pv 0) pe_int (fun _ _ => rfl)) pe_int) (pg_sub (pv 0) pe_int set_list))
 (pss_cons (ps_asg (pe_op op_mod (pe_callTy call_int1 (by rfl) M.int (by decide +kernel) (pa_cons (pe_op op_add (pe_op op_add (pe_op op_mul (pe_ix ix_list (pv 0) pe_int (fun _ _ => rfl)) pe_int) (pe_op op_mul pe_int (pe_ix ix_list (pv 0) pe_int (fun _ _ => rfl)))) pe_int) pa_nil)) pe_int) (pg_sub (pv 0) pe_int set_list))
 (pss_one (ps_ret (pe_op op_mod (pe_callTy call_int1 (by rfl) M.int (by decide +kernel) (pa_cons (pe_op op_fdiv (pe_ix ix_list (pv 0) pe_int (fun _ _ => rfl)) pe_int) pa_nil)) (pv 1))))))), ?_⟩
    have a0 : ∀ {x y z : V}, atI [x, y, z] 0 = some x := fun {x y z} => rfl
    have a1 : ∀ {x y z : V}, atI [x, y, z] 1 = some y := fun {x y z} => rfl
    have a2 : ∀ {x y z : V}, atI [x, y, z] 2 = some z := fun {x y z} => rfl
    -- if well[0] != []
    refine ⟨_, rfl, w, _, 0, .ref l, rfl, rfl, .inl (.inl hw), a0, ?_⟩
    refine ⟨Nat.zero_le _, fun e ne => ?_⟩
    have hL1 : (upd H e (.lst [])) l = some (.lst (ns.map V.int)) := by
      rw [upd_ne (ne_of_none hL ne)]
      exact hL
    have hw1 : (upd H e (.lst [])) w = some (.lst [.ref l, .int st, .int n]) := by
      rw [upd_ne (ne_of_none hw ne)]
      exact hw
    have k1 : Kp (At w) H (upd H e (.lst [])) := kp_new ne
    refine ⟨.list (ns.map PyData.int), .list [], .lst (.inl (.inl hL1)) (ints_dp ns), .lst (.inl (.inl upd_same)) .nil, ints_shaped ns, ints_shaped [], _, rfl, ?_⟩
    rw [ints_nil]
    generalize upd H e (.lst []) = H1 at hL1 hw1 k1
    cases ns with
    | cons x r =>
      refine iteT ?_
      -- rest, digit = divmod(well[0][0], limit)
      refine ⟨_, rfl, w, _, 0, .ref l, rfl, rfl, .inl (.inl hw1), a0, l, _, 0, .int x, rfl, rfl, .inl (.inl hL1), atI_nat (j := 0) rfl, ?_⟩
      refine ⟨_, rfl, x, limit, rfl, ⟨hl, PyProof.noPylong_small (by omega)⟩, fun p np => ?_⟩
      have hL2 : (upd H1 p (.tup [.int (x / limit), .int (x % limit)])) l = some (.lst ((x :: r).map V.int)) := by
        rw [upd_ne (ne_of_none hL1 np)]
        exact hL1
      have hw2 : (upd H1 p (.tup [.int (x / limit), .int (x % limit)])) w = some (.lst [.ref l, .int st, .int n]) := by
        rw [upd_ne (ne_of_none hw1 np)]
        exact hw1
      have k2 : Kp (At w) H (upd H1 p (.tup [.int (x / limit), .int (x % limit)])) := k1.trans (kp_new np)
      refine ⟨p, _, rfl, .inl (.inl upd_same), rfl, _, _, rfl, _, _, rfl, rfl, ?_⟩
      generalize upd H1 p (.tup [.int (x / limit), .int (x % limit)]) = H2 at hL2 hw2 k2
      -- well[0] = ([rest] if rest > 0 else []) + well[0][1:]
      have tail : ∀ (ms : List Int) (b : Addr) (H3 : Hp), ms.length ≤ 1 → H3 b = some (.lst (ms.map V.int)) → H3 l = some (.lst ((x :: r).map V.int)) → H3 w = some (.lst [.ref l, .int st, .int n]) →
          Kp (At w) H H3 → ∃ v, ([some (.ref w), some (.int limit), some (.int (x / limit)), some (.int (x % limit))] : List (Option V))[0]? = some (some v) ∧
            rIxL K v (.int 0) H3 fun x1 H4 => tPart (tC (.int 1)) [some (.ref w), some (.int limit), some (.int (x / limit)), some (.int (x % limit))] H4 fun lo H5 =>
              tNoPart [some (.ref w), some (.int limit), some (.int (x / limit)), some (.int (x % limit))] H5 fun hi H6 =>
                rSlL K x1 lo hi H6 fun y H7 => rCat (.ref b) y H7 fun z H8 => gSub (tVar 0) (tC (.int 0)) rSetL z [some (.ref w), some (.int limit), some (.int (x / limit)), some (.int (x % limit))] H8 fun σ' H9 => ∃ v, σ'[3]? = some (some v) ∧ Q v H9 := by
        intro ms b H3 hms hb hL3 hw3 k3
        refine ⟨_, rfl, w, _, 0, .ref l, rfl, rfl, .inl (.inl hw3), a0, 1, rfl, l, _, rfl, .inl (.inl hL3), fun c nc => ?_⟩
        rw [cutTail]
        have hb4 : (upd H3 c (.lst (r.map V.int))) b = some (.lst (ms.map V.int)) := by
          rw [upd_ne (ne_of_none hb nc)]
          exact hb
        have hw4 : (upd H3 c (.lst (r.map V.int))) w = some (.lst [.ref l, .int st, .int n]) := by
          rw [upd_ne (ne_of_none hw3 nc)]
          exact hw3
        have k4 : Kp (At w) H (upd H3 c (.lst (r.map V.int))) := k3.trans (kp_new nc)
        rw [List.length_cons] at hlen
        refine ⟨b, c, _, _, rfl, rfl, hb4, upd_same, sz63 (by rw [List.length_map, List.length_map]; omega), fun m nm => ?_⟩
        have hw5 : (upd (upd H3 c (.lst (r.map V.int))) m (.lst (ms.map V.int ++ r.map V.int))) w = some (.lst [.ref l, .int st, .int n]) := by
          rw [upd_ne (ne_of_none hw4 nm)]
          exact hw4
        have hmw : m ≠ w := fun z => by
          rw [z, hw4] at nm
          cases nm
        refine ⟨_, rfl, w, _, 0, 0, rfl, rfl, hw5, rfl, _, rfl, ?_⟩
        refine q _ _ m (Int.emod_nonneg _ (by omega)) (Int.emod_lt_of_pos _ hl) ((k4.trans (kp_new nm)).trans (Kp.mut rfl)) ⟨st, n, ms ++ r, upd_same, hmw, ?_, ?_⟩ (.inr (kp_free k4 nm hmw))
        · rw [upd_ne hmw, upd_same, List.map_append]
        · rw [List.length_append]
          omega
      refine ⟨_, rfl, _, _, rfl, rfl, _, rfl, ite2 (fun _ => ?_) (fun _ => ?_)⟩
      · refine ⟨_, rfl, sz63 (by show 1 ≤ 1000; decide), fun b nb => ?_⟩
        exact tail [x / limit] b _ (Nat.le_refl _) upd_same (by rw [upd_ne (ne_of_none hL2 nb)]; exact hL2) (by rw [upd_ne (ne_of_none hw2 nb)]; exact hw2) (k2.trans (kp_new nb))
      · refine ⟨Nat.zero_le _, fun b nb => ?_⟩
        exact tail [] b _ (Nat.zero_le _) upd_same (by rw [upd_ne (ne_of_none hL2 nb)]; exact hL2) (by rw [upd_ne (ne_of_none hw2 nb)]; exact hw2) (k2.trans (kp_new nb))
    | nil =>
      refine iteF ?_
      -- well[2] = well[2] + 1
      refine ⟨_, rfl, w, _, 2, .int n, rfl, rfl, .inl (.inl hw1), a2, _, _, rfl, rfl, _, rfl, w, _, 2, 2, rfl, rfl, hw1, rfl, ?_⟩
      -- well[1] = ..
      refine ⟨_, rfl, w, _, 1, .int st, rfl, rfl, .inl (.inl upd_same), a1, _, _, rfl, rfl, .inr ⟨by decide, by decide⟩, ?_⟩
      refine ⟨_, rfl, w, _, 2, .int (n + 1), rfl, rfl, .inl (.inl upd_same), a2, _, _, rfl, rfl, .inl ⟨by decide, by decide⟩, ?_⟩
      refine ⟨_, _, rfl, rfl, _, _, rfl, rfl, .inl ⟨_, rfl, ?_⟩⟩
      refine ⟨_, _, rfl, rfl, (by show (0 : Int) < 2147483647; decide), _, rfl, w, _, 1, 1, rfl, rfl, upd_same, rfl, ?_⟩
      -- return int(well[1] // 1009) % limit
      refine ⟨_, rfl, w, _, 1, _, rfl, rfl, .inl (.inl upd_same), a1, _, _, rfl, rfl, ⟨by decide, by decide⟩, .inl ⟨_, rfl, ?_⟩⟩
      refine ⟨_, rfl, _, _, rfl, rfl, hl, ?_⟩
      refine q _ _ l (Int.emod_nonneg _ (by omega)) (Int.emod_lt_of_pos _ hl) ((k1.trans (Kp.mut rfl)).trans (Kp.mut rfl)) ⟨_, _, [], upd_same, hne, ?_, Nat.zero_le _⟩ (.inl rfl)
      rw [upd_ne hne, upd_ne hne]
      exact hL1

theorem ok_pick {f : Addr} {fd : FuncData} (F : Fun K "_law_pick" "_law_pick" s_law_pick f fd) (M : Mb mg) : FnOk P w K mg base CX0 1 f fd ["well", "limit"] spPick :=
  weaken (ok_pickL F M) fun vs H Q E ⟨w, limit, h1, h2, h3, ⟨l, hl⟩, q⟩ => ⟨w, l, limit, h1, h2, h3, hl, fun H' d l' d0 d1 k W _ => q H' d d0 d1 k ⟨l', W⟩⟩
/-! ### one of some -/
def spOfL (K : PySem.W.Frag) : Sp := fun vs H Q _ => ∃ (w l a : Addr) (xs : List V), vs = [.ref w, .ref a] ∧ WellAt w l H ∧ a ≠ w ∧ (SqL K H a xs ∨ SqT K H a xs) ∧ 0 < xs.length ∧ xs.length < 1073741824 ∧
  ∀ (H' : Hp) (i : Nat) (v : V) (l' : Addr), xs[i]? = some v → Kp (At w) H H' → WellAt w l' H' → (l' = l ∨ H l' = none) → Q v H'
def spOf (K : PySem.W.Frag) : Sp := fun vs H Q _ => ∃ (w a : Addr) (xs : List V), vs = [.ref w, .ref a] ∧ IsWell w H ∧ a ≠ w ∧ (SqL K H a xs ∨ SqT K H a xs) ∧ 0 < xs.length ∧ xs.length < 1073741824 ∧
  ∀ (H' : Hp) (i : Nat) (v : V), xs[i]? = some v → Kp (At w) H H' → IsWell w H' → Q v H'
theorem kp_l {w a : Addr} {H H' : Hp} {xs : List V} (k : Kp (At w) H H') (h : a ≠ w) (s : SqL K H a xs) : SqL K H' a xs := by
  rcases s with (e | ⟨o, e⟩) | e
  · exact .inl (.inl (k _ _ h e))
  · exact .inl (.inr ⟨o, k _ _ h e⟩)
  · exact .inr e
theorem kp_t {w a : Addr} {H H' : Hp} {xs : List V} (k : Kp (At w) H H') (h : a ≠ w) (s : SqT K H a xs) : SqT K H' a xs := by
  rcases s with (e | ⟨o, e⟩) | e
  · exact .inl (.inl (k _ _ h e))
  · exact .inl (.inr ⟨o, k _ _ h e⟩)
  · exact .inr e
theorem ok_ofL {f : Addr} {fd : FuncData} (F : Fun K "_law_of" "_law_of" s_law_of f fd) (M : Mb mg) (Dlaw_pick : Df P w K mg base 1 "_law_pick" ["well", "limit"] spPickL) :
    FnOk P w K mg base CX0 2 f fd ["well", "some"] (spOfL K) := by
  refine F.ok c_law_of (fun vs H Q E h => ?_) (fun cdv A outer s H vs Q E hr h => ?_)
  · obtain ⟨w, l, a, xs, rfl, _⟩ := h
    rfl
  · obtain ⟨w, l, a, xs, rfl, hW, ne, hx, h0, h1, q⟩ := h
    refine ⟨_, (pss_one (ps_ret (pe_ix ix_seq (pv 1) (pe_call Dlaw_pick.G (hr.mono (by first | decide | omega)) rfl Dlaw_pick.g Dlaw_pick.kp Dlaw_pick.b .nil pass0 (pa_cons (pv 0) (pa_cons (pe_callB call_len_seq (by rfl) M.len (by decide +kernel) (pa_cons (pv 1) pa_nil)) pa_nil))) (fun _ _ => rfl)))), ?_⟩
    refine ⟨_, rfl, _, rfl, _, rfl, a, xs, rfl, hx, w, l, _, rfl, by omega, by omega, hW, fun H' d l' d0 d1 k hW' hl' => ?_⟩
    obtain ⟨j, rfl⟩ : ∃ j : Nat, d = (j : Int) := ⟨d.toNat, by omega⟩
    have hd : j < xs.length := by omega
    have get : xs[j]? = some xs[j] := by simp [hd]
    have hat : atI xs (j : Int) = some xs[j] := atI_nat get
    rcases hx with hx | hx
    · exact .inl ⟨a, xs, _, _, rfl, rfl, kp_l k ne hx, hat, q H' _ _ l' get k hW' hl'⟩
    · exact .inr (.inl ⟨a, xs, _, _, rfl, rfl, kp_t k ne hx, hat, q H' _ _ l' get k hW' hl'⟩)
theorem ok_of {f : Addr} {fd : FuncData} (F : Fun K "_law_of" "_law_of" s_law_of f fd) (M : Mb mg) (Dlaw_pick : Df P w K mg base 1 "_law_pick" ["well", "limit"] spPickL) :
    FnOk P w K mg base CX0 2 f fd ["well", "some"] (spOf K) :=
  weaken (ok_ofL F M Dlaw_pick) fun vs H Q E ⟨w, a, xs, h1, ⟨l, hl⟩, h3, h4, h5, h6, q⟩ => ⟨w, l, a, xs, h1, hl, h3, h4, h5, h6, fun H' i v l' e k W _ => q H' i v e k ⟨l', W⟩⟩
end
end Kx
/-! The program's exact numbers and what is a walk. -/
namespace Kx
open PySem PySem.Spec PyProof.Rows L2 Bw

/-- the program's constants -/
structure Mp (K : PySem.W.Frag) (mg : Str → Option Value) where
  gcd : mg "gcd" = some (.builtin "math.gcd")
  nilA : Addr
  nil : mg "NIL" = some (.ref nilA)
  nilT : ∀ H, SqT K H nilA [.int 0, .int 1]
  oneA : Addr
  one : mg "ONE" = some (.ref oneA)
  oneT : ∀ H, SqT K H oneA [.int 1, .int 1]
  tk : Tok
  most : mg "MOST_PLACES" = some (.int 6 tk)

abbrev sis_whole : Stmt := topS 8
abbrev nis_whole : List Str := ["value"]
theorem cis_whole : FnScope nis_whole ["value"] (defScope sis_whole) :=
  ⟨rfl, rfl, rfl, by decide +kernel, rfl, by decide +kernel, by decide +kernel⟩

abbrev sis_fraction : Stmt := topS 10
abbrev nis_fraction : List Str := ["value", "top", "bottom"]
theorem cis_fraction : FnScope nis_fraction ["value"] (defScope sis_fraction) :=
  ⟨rfl, rfl, rfl, by decide +kernel, rfl, by decide +kernel, by decide +kernel⟩

abbrev sis_from_nil : Stmt := topS 11
abbrev nis_from_nil : List Str := ["value"]
theorem cis_from_nil : FnScope nis_from_nil ["value"] (defScope sis_from_nil) :=
  ⟨rfl, rfl, rfl, by decide +kernel, rfl, by decide +kernel, by decide +kernel⟩

abbrev slowest : Stmt := topS 12
abbrev nlowest : List Str := ["top", "bottom", "shared"]
theorem clowest : FnScope nlowest ["top", "bottom"] (defScope slowest) :=
  ⟨rfl, rfl, rfl, by decide +kernel, rfl, by decide +kernel, by decide +kernel⟩

abbrev splus : Stmt := topS 13
abbrev nplus : List Str := ["one", "other"]
theorem cplus : FnScope nplus ["one", "other"] (defScope splus) :=
  ⟨rfl, rfl, rfl, by decide +kernel, rfl, by decide +kernel, by decide +kernel⟩

abbrev stotal : Stmt := topS 16
abbrev ntotal : List Str := ["fractions", "result", "fraction"]
theorem ctotal : FnScope ntotal ["fractions"] (defScope stotal) :=
  ⟨rfl, rfl, rfl, by decide +kernel, rfl, by decide +kernel, by decide +kernel⟩

abbrev sis_table_row : Stmt := topS 26
abbrev nis_table_row : List Str := ["value", "many", "number"]
theorem cis_table_row : FnScope nis_table_row ["value", "many"] (defScope sis_table_row) :=
  ⟨rfl, rfl, rfl, by decide +kernel, rfl, by decide +kernel, by decide +kernel⟩

abbrev sis_table : Stmt := topS 27
abbrev nis_table : List Str := ["value", "row"]
theorem cis_table : FnScope nis_table ["value"] (defScope sis_table) :=
  ⟨rfl, rfl, rfl, by decide +kernel, rfl, by decide +kernel, by decide +kernel⟩

abbrev sleads_to_all : Stmt := topS 28
abbrev nleads_to_all : List Str := ["links", "found", "waiting", "here", "there", "link"]
theorem cleads_to_all : FnScope nleads_to_all ["links"] (defScope sleads_to_all) :=
  ⟨rfl, rfl, rfl, by decide +kernel, rfl, by decide +kernel, by decide +kernel⟩

abbrev sis_whole_table : Stmt := topS 29
abbrev nis_whole_table : List Str := ["table", "links", "row", "number", "turned", "column"]
theorem cis_whole_table : FnScope nis_whole_table ["table"] (defScope sis_whole_table) :=
  ⟨rfl, rfl, rfl, by decide +kernel, rfl, by decide +kernel, by decide +kernel⟩


section
variable {P : Program} {w : World} {K : PySem.W.Frag} {mg : Str → Option Value} {base : Heap}

/-- a question about any value, the heap as it was -/
def spAsk (b : PyData → Bool) : Sp := fun vs H Q _ => ∃ (W : Addr → Prop) (v : V) (d : PyData), vs = [v] ∧ Dq W H v d ∧ Q (.bl (b d)) H
theorem ok_is_whole {f : Addr} {fd : FuncData} (F : Fun K "is_whole" "is_whole" sis_whole f fd) (M : Mb mg) : FnOk P w K mg base CX0 1 f fd ["value"] (spAsk isNum) := by
  refine F.ok cis_whole (fun vs H Q E h => ?_) (fun cdv A outer s H vs Q E hr h => ?_)
  · obtain ⟨_, v, d, rfl, _⟩ := h
    rfl
  · obtain ⟨W, v, d, rfl, hd, q⟩ := h
    refine ⟨_, (pss_one (ps_ret (pe_and (pe_callB call_isD (by rfl) M.isinstance (by decide +kernel) (pa_cons (pv 0) (pa_cons (pe_bltn (v := .ty "int") rfl M.int (by decide +kernel) rfl) pa_nil))) (pe_one (pe_not (pe_callB call_isD (by rfl) M.isinstance (by decide +kernel) (pa_cons (pv 0) (pa_cons (pe_bltn (v := .ty "bool") rfl M.bool (by decide +kernel) rfl) pa_nil)))))))), ?_⟩
    refine ⟨_, rfl, W, v, d, "int", _, rfl, hd, kit_int d, _, rfl, ?_⟩
    cases d with
    | int i => exact ifT rfl ⟨_, rfl, W, v, _, "bool", _, rfl, hd, kit_bool _, _, rfl, q⟩
    | bool b => exact ifT rfl ⟨_, rfl, W, v, _, "bool", _, rfl, hd, kit_bool _, _, rfl, q⟩
    | _ => exact ifF (fun z => nomatch z) q
theorem ok_is_fraction {f : Addr} {fd : FuncData} (F : Fun K "is_fraction" "is_fraction" sis_fraction f fd) (M : Mb mg) (Z : Mp K mg) (Dis_whole : Df P w K mg base 1 "is_whole" ["value"] (spAsk isNum)) :
    FnOk P w K mg base CX0 2 f fd ["value"] (spAsk isFr) := by
  refine F.ok cis_fraction (fun vs H Q E h => ?_) (fun cdv A outer s H vs Q E hr h => ?_)
  · obtain ⟨_, v, d, rfl, _⟩ := h
    rfl
  · obtain ⟨W, v, d, rfl, hd, q⟩ := h
    refine ⟨_, (pss_cons (ps_if (PW.pt (pw_or (pt_not (pt_val (pe_callB call_isD (by rfl) M.isinstance (by decide +kernel) (pa_cons (pv 0) (pa_cons (pe_bltn (v := .ty "tuple") rfl M.tuple (by decide +kernel) rfl) pa_nil))))) (pw_or1 (pt_cmpR op_ne (pe_callB call_len_seq (by rfl) M.len (by decide +kernel) (pa_cons (pv 0) pa_nil)) pe_int (nomark _)))))
 (pss_one (ps_ret pe_bl))
 pss_nil)
 (pss_cons (ps_asg (pv 0) (pg_tup rfl (pgs_cons (pg_name (i := 1) cis_fraction.nd rfl (.inl rfl)) (pgs_cons (pg_name (i := 2) cis_fraction.nd rfl (.inl rfl)) pgs_nil))))
 (pss_one (ps_ret (pe_and (pe_call Dis_whole.G (hr.mono (by first | decide | omega)) rfl Dis_whole.g Dis_whole.kp Dis_whole.b .nil pass0 (pa_cons (pv 1) pa_nil)) (pe_and (pe_call Dis_whole.G (hr.mono (by first | decide | omega)) rfl Dis_whole.g Dis_whole.kp Dis_whole.b .nil pass0 (pa_cons (pv 2) pa_nil)) (pe_and (pe_cmpR op_gt (pv 2) pe_int (nomark _)) (pe_one (pe_cmpR op_eq (pe_callBfun cr_gcd (by rfl) Z.gcd (pa_cons (pv 1) (pa_cons (pv 2) pa_nil))) pe_int (nomark _)))))))))), ?_⟩
    refine ⟨_, rfl, W, v, d, "tuple", _, rfl, hd, kit_tup d, _, rfl, ?_⟩
    cases hd with
    | tup na ea el =>
      rename_i a xs ds
      refine iteF ⟨_, rfl, a, xs, rfl, .inr (.of ea), rfl, _, rfl, ite2 (fun hn => ?_) (fun hn => ?_)⟩
      · have hl : ds.length ≠ 2 := fun z => by
          have := el.length
          simp at hn
          omega
        have e : isFr (.tuple ds) = false := by
          unfold isFr
          split
          · rename_i z
            cases z
            simp at hl
          · rfl
        rw [e] at q
        exact q
      · have hl : xs.length = 2 := by
          simp at hn
          omega
        match xs, ds, el, hl with
        | [x, y], [d1, d2], .cons h1 (.cons h2 .nil), _ =>
          refine ⟨_, rfl, a, [x, y], rfl, .of ea, rfl, x, [y], rfl, y, [], rfl, rfl, ?_⟩
          refine ⟨_, rfl, W, x, d1, rfl, h1, _, rfl, ?_⟩
          cases h1 with
          | int i =>
            refine iteT ⟨_, rfl, W, y, d2, rfl, h2, _, rfl, ?_⟩
            cases h2 with
            | int j =>
              refine iteT ⟨_, rfl, j, 0, rfl, rfl, _, rfl, ite2 (fun hb => ?_) (fun hb => ?_)⟩
              · refine ⟨_, rfl, _, rfl, i, j, rfl, rfl, ?_⟩
                have e : isFr (.tuple [.int i, .int j]) = decide (V.int ((Nat.gcd i.natAbs j.natAbs : Nat) : Int) = V.int 1) := by
                  show (decide (0 < j) && decide (Nat.gcd i.natAbs j.natAbs = 1)) = _
                  rw [hb, Bool.true_and]
                  refine decide_eq_decide.mpr ⟨fun z => by rw [z]; rfl, fun z => ?_⟩
                  have z' := V.int.inj z
                  omega
                rw [e] at q
                exact q
              · have e : isFr (.tuple [.int i, .int j]) = false := by
                  show (decide (0 < j) && decide (Nat.gcd i.natAbs j.natAbs = 1)) = _
                  rw [Bool.eq_false_iff.mpr hb, Bool.false_and]
                rw [e] at q
                exact q
            | _ => exact q
          | _ => exact q
    | _ => exact q
theorem isFr0_of {a b : Int} : isFr0 (.tuple [.int a, .int b]) = (isFr (.tuple [.int a, .int b]) && decide (0 ≤ a)) := rfl
theorem isFr0_no {d : PyData} (h : isFr d = false) : isFr0 d = false := by
  unfold isFr0
  split
  · rename_i a b
    have h' : (decide (0 < b) && decide (Nat.gcd a.natAbs b.natAbs = 1)) = false := h
    rw [h', Bool.false_and]
  · rfl
theorem ok_is_from_nil {f : Addr} {fd : FuncData} (F : Fun K "is_from_nil" "is_from_nil" sis_from_nil f fd) (M : Mb mg) (Dis_fraction : Df P w K mg base 2 "is_fraction" ["value"] (spAsk isFr)) :
    FnOk P w K mg base CX0 3 f fd ["value"] (spAsk isFr0) := by
  refine F.ok cis_from_nil (fun vs H Q E h => ?_) (fun cdv A outer s H vs Q E hr h => ?_)
  · obtain ⟨_, v, d, rfl, _⟩ := h
    rfl
  · obtain ⟨W, v, d, rfl, hd, q⟩ := h
    refine ⟨_, (pss_one (ps_ret (pe_and (pe_call Dis_fraction.G (hr.mono (by first | decide | omega)) rfl Dis_fraction.g Dis_fraction.kp Dis_fraction.b .nil pass0 (pa_cons (pv 0) pa_nil)) (pe_one (pe_cmpR op_ge (pe_ix ix_tup (pv 0) pe_int (fun _ _ => rfl)) pe_int (nomark _)))))), ?_⟩
    refine ⟨_, rfl, W, v, d, rfl, hd, _, rfl, ?_⟩
    cases e : isFr d with
    | false =>
      rw [isFr0_no e] at q
      exact ifF (fun z => nomatch z) q
    | true =>
      obtain ⟨r, rfl⟩ := isFr_iff.mp e
      obtain ⟨a, rfl, _, ea⟩ := hd.frI
      refine ifT rfl ⟨_, rfl, a, _, 0, _, rfl, rfl, .of ea, rfl, _, _, rfl, rfl, ?_⟩
      have e2 : isFr0 (frD r) = decide (0 ≤ r.num) := by
        show (isFr (frD r) && _) = _
        rw [e, Bool.true_and]
      rw [e2] at q
      exact q

/-- two whole numbers brought to lowest terms -/
def spLowest : Sp := fun vs H Q _ => ∃ (a b : Int) (n : Nat), vs = [.int a, .int b] ∧ 0 < b ∧ b.natAbs < 2 ^ n ∧ n ≤ 9000 ∧
  ∀ p, H p = none → Q (.ref p) (upd H p (.tup [.int (Rat.divInt a b).num, .int (Rat.divInt a b).den]))
theorem ok_lowest {f : Addr} {fd : FuncData} (F : Fun K "lowest" "lowest" slowest f fd) (M : Mb mg) (Z : Mp K mg) : FnOk P w K mg base CX0 1 f fd ["top", "bottom"] spLowest := by
  refine F.ok clowest (fun vs H Q E h => ?_) (fun cdv A outer s H vs Q E hr h => ?_)
  · obtain ⟨a, b, n, rfl, _⟩ := h
    rfl
  · obtain ⟨a, b, n, rfl, hb, hn, h9, q⟩ := h
    refine ⟨_, (pss_cons (ps_set (i := 2) clowest.nd rfl (.inl rfl) (pe_callBfun cr_gcd (by rfl) Z.gcd (pa_cons (pv 0) (pa_cons (pv 1) pa_nil))))
 (pss_cons (ps_if (pt_cmpR op_lt (pv 1) pe_int (nomark _))
 (pss_one (ps_set (i := 2) clowest.nd rfl (.inl rfl) (pe_un un_neg (pv 2))))
 pss_nil)
 (pss_one (ps_ret (pe_tup (pa_cons (pe_op op_fdivW (pv 0) (pv 2)) (pa_cons (pe_op op_fdivW (pv 1) (pv 2)) pa_nil))))))), ?_⟩
    have hg : 0 < Nat.gcd a.natAbs b.natAbs := Nat.gcd_pos_of_pos_right _ (by omega)
    have hg2 : Nat.gcd a.natAbs b.natAbs ≤ b.natAbs := Nat.gcd_le_right _ (by omega)
    have hn0 : 0 < n := by
      cases n with
      | zero => omega
      | succ n => omega
    have cd : CDivW a ((Nat.gcd a.natAbs b.natAbs : Nat) : Int) := wide_div (b := n) (by omega) (by omega) hn0 h9
    refine ⟨_, rfl, _, rfl, a, b, rfl, _, rfl, _, _, rfl, rfl, _, rfl, ifF (by rw [decide_eq_true_eq]; omega) ?_⟩
    refine ⟨_, rfl, _, rfl, _, _, rfl, rfl, cd, _, rfl, _, rfl, _, _, rfl, rfl, cd, sz63 (by show 2 ≤ 1000; decide), fun p hp => ?_⟩
    have q' := q p hp
    rw [Bq.q_num hb, Bq.q_den hb] at q'
    exact q'
/-- the sum of two fractions -/
def spPlus (K : PySem.W.Frag) : Sp := fun vs H Q _ => ∃ (v u : V) (p q : Rat) (m n : Nat), vs = [v, u] ∧ FrR K H v p ∧ FrR K H u q ∧ Bq.Sz m p ∧ Bq.Sz n q ∧ m + n ≤ 9000 ∧
  ∀ a, H a = none → Q (.ref a) (upd H a (.tup [.int (p + q).num, .int (p + q).den]))
theorem sz_pos {n : Nat} {q : Rat} (h : Bq.Sz n q) : 0 < n := by
  have h1 := Bq.den_pos q
  have h2 := h.2
  cases n with
  | zero => omega
  | succ n => omega
theorem mulW {x y : Int} {m n : Nat} (hx : x.natAbs < 2 ^ m) (hy : y.natAbs < 2 ^ n) (m0 : 0 < m) (n0 : 0 < n) (h : m + n ≤ 9000) : CMulW x y := wide_mul hx hy m0 n0 (by omega)
theorem ok_plus {f : Addr} {fd : FuncData} (F : Fun K "plus" "plus" splus f fd) (M : Mb mg) (Dlowest : Df P w K mg base 1 "lowest" ["top", "bottom"] spLowest) : FnOk P w K mg base CX0 2 f fd ["one", "other"] (spPlus K) := by
  refine F.ok cplus (fun vs H Q E h => ?_) (fun cdv A outer s H vs Q E hr h => ?_)
  · obtain ⟨v, u, p, q, m, n, rfl, _⟩ := h
    rfl
  · obtain ⟨v, u, p, r, m, n, rfl, ⟨a, rfl, ha⟩, ⟨b, rfl, hb⟩, sp, sr, hmn, q⟩ := h
    refine ⟨_, (pss_one (ps_ret (pe_call Dlowest.G (hr.mono (by first | decide | omega)) rfl Dlowest.g Dlowest.kp Dlowest.b .nil pass0 (pa_cons (pe_op op_add (pe_op op_mulW (pe_ix ix_tup (pv 0) pe_int (fun _ _ => rfl)) (pe_ix ix_tup (pv 1) pe_int (fun _ _ => rfl))) (pe_op op_mulW (pe_ix ix_tup (pv 1) pe_int (fun _ _ => rfl)) (pe_ix ix_tup (pv 0) pe_int (fun _ _ => rfl)))) (pa_cons (pe_op op_mulW (pe_ix ix_tup (pv 0) pe_int (fun _ _ => rfl)) (pe_ix ix_tup (pv 1) pe_int (fun _ _ => rfl))) pa_nil))))), ?_⟩
    have m0 := sz_pos sp
    have n0 := sz_pos sr
    refine ⟨_, rfl, a, _, 0, _, rfl, rfl, ha, rfl, _, rfl, b, _, 1, _, rfl, rfl, hb, rfl, _, _, rfl, rfl, mulW sp.1 (Bq.den_abs sr) m0 n0 hmn, ?_⟩
    refine ⟨_, rfl, b, _, 0, _, rfl, rfl, hb, rfl, _, rfl, a, _, 1, _, rfl, rfl, ha, rfl, _, _, rfl, rfl, mulW sr.1 (Bq.den_abs sp) n0 m0 (by omega), ?_⟩
    refine ⟨_, _, rfl, rfl, ?_⟩
    refine ⟨_, rfl, a, _, 1, _, rfl, rfl, ha, rfl, _, rfl, b, _, 1, _, rfl, rfl, hb, rfl, _, _, rfl, rfl, mulW (Bq.den_abs sp) (Bq.den_abs sr) m0 n0 hmn, ?_⟩
    refine ⟨_, _, m + n, rfl, Bq.dens_pos p r, Bq.dens sp sr, hmn, fun x hx => ?_⟩
    have q' := q x hx
    rw [← Bq.q_add] at q'
    exact q'
/-- a row of fractions that is read -/
def FrRow (K : PySem.W.Frag) (H : Hp) (xs : List V) (qs : List Rat) : Prop := xs.length = qs.length ∧ ∀ (i : Nat) v q, xs[i]? = some v → qs[i]? = some q → FrR K H v q
theorem FrRow.same {H H' : Hp} {xs : List V} {qs : List Rat} (s : Same H H') (h : FrRow K H xs qs) : FrRow K H' xs qs := ⟨h.1, fun i v q e1 e2 => (h.2 i v q e1 e2).same s⟩
theorem dq_row {W : Addr → Prop} {H : Hp} : ∀ {xs : List V} {qs : List Rat}, DqAll W H xs (qs.map frD) → FrRow K H xs qs
  | [], [], _ => ⟨rfl, fun i v q e => by simp at e⟩
  | _, [], h => by
    cases h
    exact ⟨rfl, fun i v q e => by simp at e⟩
  | _, q :: qs, h => by
    cases h with
    | cons h t =>
      obtain ⟨l, r⟩ := dq_row t
      refine ⟨congrArg (· + 1) l, fun i v q' e1 e2 => ?_⟩
      cases i with
      | zero =>
        simp at e1 e2
        subst e1 e2
        exact h.fr
      | succ i => exact r i v q' e1 e2
theorem sum_take {qs : List Rat} {i : Nat} {q : Rat} (h : qs[i]? = some q) : Bq.sumQ (qs.take (i + 1)) = Bq.sumQ (qs.take i) + q := by
  rw [List.take_succ, h]
  exact Bq.sum_snoc _ _
theorem sz_take {n : Nat} {qs : List Rat} (h : ∀ q ∈ qs, Bq.Sz n q) : ∀ i, i ≤ qs.length → Bq.Sz (1 + i * (n + 1)) (Bq.sumQ (qs.take i))
  | 0, _ => by
    rw [Nat.zero_mul]
    exact Bq.Sz.zero
  | i + 1, hi => by
    have e : qs[i]? = some qs[i] := List.getElem?_eq_getElem (by omega)
    rw [sum_take e]
    have h1 := sz_take h i (by omega)
    have h2 := h _ (List.mem_of_getElem? e)
    have h3 := h1.add h2
    have e2 : 1 + i * (n + 1) + n + 1 = 1 + (i + 1) * (n + 1) := by
      rw [Nat.succ_mul]
      omega
    rw [e2] at h3
    exact h3
/-- the sum of a row, a tuple -/
def spTotal (K : PySem.W.Frag) : Sp := fun vs H Q _ => ∃ (a : Addr) (xs : List V) (qs : List Rat) (n : Nat), vs = [.ref a] ∧ SqT K H a xs ∧ FrRow K H xs qs ∧ (∀ q ∈ qs, Bq.Sz n q) ∧ 1 + qs.length * (n + 1) ≤ 9000 ∧
  ∀ v H', Same H H' → FrR K H' v (Bq.sumQ qs) → (qs ≠ [] → Dq (Old H) H' v (frD (Bq.sumQ qs))) → Q v H'
theorem ok_total {f : Addr} {fd : FuncData} (F : Fun K "total" "total" stotal f fd) (M : Mb mg) (Z : Mp K mg) (Dplus : Df P w K mg base 2 "plus" ["one", "other"] (spPlus K)) : FnOk P w K mg base CX0 3 f fd ["fractions"] (spTotal K) := by
  refine F.ok ctotal (fun vs H Q E h => ?_) (fun cdv A outer s H vs Q E hr h => ?_)
  · obtain ⟨a, xs, qs, n, rfl, _⟩ := h
    rfl
  · obtain ⟨a, xs, qs, n, rfl, ha, hx, hs, hn, q⟩ := h
    refine ⟨_, (pss_cons (ps_set (i := 1) ctotal.nd rfl (.inl rfl) (pe_glob (v := .ref Z.nilA) rfl Z.nil rfl))
 (pss_cons (ps_for PassesOwn.never rfl (pi_tup (pv 0)) (pg_name (i := 2) ctotal.nd rfl (.inl rfl))
 (pss_one (ps_set (i := 1) ctotal.nd rfl (.inl rfl) (pe_call Dplus.G (hr.mono (by first | decide | omega)) rfl Dplus.g Dplus.kp Dplus.b .nil pass0 (pa_cons (pv 1) (pa_cons (pv 2) pa_nil))))))
 (pss_one (ps_ret (pv 1))))), ?_⟩
    refine ⟨_, rfl, a, rfl, ⟨_, ha⟩, for_tup (K := K) (a := a) (xs := xs)
      (fun i σ H' => ∃ v y, σ = [some (.ref a), some v, y] ∧ Same H H' ∧ FrR K H' v (Bq.sumQ (qs.take i)) ∧ (0 < i → Dq (Old H) H' v (frD (Bq.sumQ (qs.take i)))))
      ⟨_, none, rfl, .refl H, ⟨_, rfl, Z.nilT H⟩, fun z => absurd z (Nat.lt_irrefl _)⟩ (fun i σ H' _ ⟨_, _, _, s, _⟩ => same_tup s ha) ?_ ?_⟩
    · rintro i x σ H1 hi ⟨v, y, rfl, s1, hv, _⟩
      have hl : i < qs.length := by
        rw [← hx.1]
        exact (List.getElem?_eq_some_iff.mp hi).1
      have e : qs[i]? = some qs[i] := List.getElem?_eq_getElem hl
      have hb : i * (n + 1) + (n + 1) ≤ qs.length * (n + 1) := by
        rw [← Nat.succ_mul]
        exact Nat.mul_le_mul_right _ hl
      refine ⟨_, rfl, _, rfl, v, x, _, _, 1 + i * (n + 1), n, rfl, hv, (hx.2 i x _ hi e).same s1, sz_take hs i (by omega), hs _ (List.mem_of_getElem? e), by omega, fun p hp => ?_⟩
      rw [← sum_take e]
      exact ⟨_, _, rfl, s1.trans (same_new hp), ⟨p, rfl, .of upd_same⟩, fun _ => fr_dq (fun z => z (s1.free hp)) upd_same⟩
    · rintro σ H1 ⟨v, y, rfl, s1, hv, hd⟩
      rw [hx.1, List.take_length] at hv hd
      refine ⟨_, rfl, q v H1 s1 hv fun z => hd ?_⟩
      cases qs with
      | nil => exact absurd rfl z
      | cons q r => exact Nat.succ_pos _
abbrev No : Addr → Prop := fun _ => False
theorem no_same {H H' : Hp} (k : Kp No H H') : Same H H' := fun a o e => k a o id e
/-- is it a row of k fractions from 0 on -/
def spTRow : Sp := fun vs H Q _ => ∃ (W : Addr → Prop) (v : V) (d : PyData) (k : Nat), vs = [v, .int k] ∧ Dq W H v d ∧ k ≤ 1000 ∧ ∀ H', Same H H' → Q (.bl (isRow k d)) H'
theorem ok_is_table_row {f : Addr} {fd : FuncData} (F : Fun K "is_table_row" "is_table_row" sis_table_row f fd) (M : Mb mg) (Dis_from_nil : Df P w K mg base 3 "is_from_nil" ["value"] (spAsk isFr0)) :
    FnOk P w K mg base CX0 4 f fd ["value", "many"] spTRow := by
  refine F.ok cis_table_row (fun vs H Q E h => ?_) (fun cdv A outer s H vs Q E hr h => ?_)
  · obtain ⟨_, v, d, k, rfl, _⟩ := h
    rfl
  · obtain ⟨W, v, d, k, rfl, hd, hk, q⟩ := h
    refine ⟨_, (pss_one (ps_ret (pe_and (pe_callB call_isD (by rfl) M.isinstance (by decide +kernel) (pa_cons (pv 0) (pa_cons (pe_bltn (v := .ty "tuple") rfl M.tuple (by decide +kernel) rfl) pa_nil))) (pe_and (pe_cmpR op_eq (pe_callB call_len_seq (by rfl) M.len (by decide +kernel) (pa_cons (pv 0) pa_nil)) (pv 1) (nomark _)) (pe_one (pe_callB (cr_all rfl) (by rfl) M.all (by decide +kernel) (pa_cons (pe_lc (own := [("number", 2)]) rfl cis_table_row.nd (pi_tup (pv 0)) (blkOk_by (own := [("number", 2)]) (N := nis_table_row) (sc := defScope sis_table_row) (by decide +kernel)) (fun _ _ _ _ _ => (pg_name (i := 2) cis_table_row.nd rfl (.inl rfl))) (fun _ _ _ _ _ => pts_nil) (fun _ _ _ _ _ => (pe_call Dis_from_nil.G (hr.mono (by first | decide | omega)) rfl Dis_from_nil.g Dis_from_nil.kp Dis_from_nil.b .nil pass0 (pa_cons (pv 2) pa_nil)))) pa_nil))))))), ?_⟩
    refine ⟨_, rfl, W, v, d, "tuple", _, rfl, hd, kit_tup d, _, rfl, ?_⟩
    cases hd with
    | tup na ea el =>
      rename_i a xs ds
      have hl := el.length
      refine ifT rfl ⟨_, rfl, a, xs, rfl, .inr (.of ea), _, rfl, rfl, _, rfl, ite2 (fun hn => ?_) (fun hn => ?_)⟩
      · have hn' : xs.length = k := by
          have h1 := of_decide_eq_true hn
          have h2 := V.int.inj h1
          omega
        refine ⟨_, rfl, a, rfl, ⟨xs, .of ea⟩, fun D nD => lc_rel (walk_tup (K := K) (a := a) (xs := xs)) No (fun H i y => ∃ b, y = .bl b ∧ (ds.map isFr0)[i]? = some b) (fun _ _ _ _ _ r => r) nD (fun _ z => z.elim) (by omega)
          (fun H' k' => .of (k' _ _ id ea)) ?_ ?_⟩
        · rintro i x H1 _ Q' hi k1 _ ⟨rfl, hx⟩ q'
          obtain ⟨d, hd, dx⟩ := el.at hx
          exact ⟨rfl, _, rfl, W, x, d, rfl, dx.keep (Kp.same (no_same k1)), q' _ _ (.refl _) ⟨_, rfl, by rw [List.getElem?_map, hd]; rfl⟩⟩
        · rintro H1 acc k1 eD hla ha
          refine ⟨D, ds.map isFr0, rfl, .of ?_, ?_⟩
          · rw [eD, bls_of (by rw [hla, List.length_map, hl]) ha]
          · have e : isRow k (.tuple ds) = (ds.map isFr0).all id := by
              show (decide (ds.length = k) && ds.all isFr0) = _
              rw [decide_eq_true (by omega), Bool.true_and, List.all_map]
              rfl
            rw [e] at q
            exact q H1 (no_same k1)
      · have e : isRow k (.tuple ds) = false := by
          show (decide (ds.length = k) && ds.all isFr0) = _
          rw [decide_eq_false, Bool.false_and]
          intro z
          apply hn
          rw [hl, z]
          exact decide_eq_true rfl
        rw [e] at q
        exact q H (.refl H)
    | _ => exact ifF (fun z => nomatch z) (q H (.refl H))
/-- a question about any value -/
def spAskN (b : PyData → Bool) : Sp := fun vs H Q _ => ∃ (W : Addr → Prop) (v : V) (d : PyData), vs = [v] ∧ Dq W H v d ∧ ∀ H', Same H H' → Q (.bl (b d)) H'
theorem ok_is_table {f : Addr} {fd : FuncData} (F : Fun K "is_table" "is_table" sis_table f fd) (M : Mb mg) (Z : Mp K mg) (Dis_table_row : Df P w K mg base 4 "is_table_row" ["value", "many"] spTRow) :
    FnOk P w K mg base CX0 5 f fd ["value"] (spAskN isTable) := by
  refine F.ok cis_table (fun vs H Q E h => ?_) (fun cdv A outer s H vs Q E hr h => ?_)
  · obtain ⟨_, v, d, rfl, _⟩ := h
    rfl
  · obtain ⟨W, v, d, rfl, hd, q⟩ := h
    refine ⟨_, (pss_cons (ps_if (PW.pt (pw_or (pt_not (pt_val (pe_callB call_isD (by rfl) M.isinstance (by decide +kernel) (pa_cons (pv 0) (pa_cons (pe_bltn (v := .ty "tuple") rfl M.tuple (by decide +kernel) rfl) pa_nil))))) (pw_or1 (pt_not (pt_chain op_le op_le pe_int (pe_callB call_len_seq (by rfl) M.len (by decide +kernel) (pa_cons (pv 0) pa_nil)) (pe_glob (v := .int 6) rfl Z.most ⟨_, rfl⟩))))))
 (pss_one (ps_ret pe_bl))
 pss_nil)
 (pss_one (ps_ret (pe_callB (cr_all rfl) (by rfl) M.all (by decide +kernel) (pa_cons (pe_lc (own := [("row", 1)]) rfl cis_table.nd (pi_tup (pv 0)) (blkOk_by (own := [("row", 1)]) (N := nis_table) (sc := defScope sis_table) (by decide +kernel)) (fun _ _ _ _ _ => (pg_name (i := 1) cis_table.nd rfl (.inl rfl))) (fun _ _ _ _ _ => pts_nil) (fun _ _ _ _ _ => (pe_call Dis_table_row.G (hr.mono (by first | decide | omega)) rfl Dis_table_row.g Dis_table_row.kp Dis_table_row.b .nil pass0 (pa_cons (pv 1) (pa_cons (pe_callB (id := "len") (call_lenK (K := K) rfl) (by rfl) M.len (by decide +kernel) (pa_cons (pv 0) pa_nil)) pa_nil))))) pa_nil))))), ?_⟩
    refine ⟨_, rfl, W, v, d, "tuple", _, rfl, hd, kit_tup d, _, rfl, ?_⟩
    cases hd with
    | tup na ea el =>
      rename_i a xs ds
      have hl := el.length
      refine ifF (fun z => nomatch z) ?_
      refine ⟨_, rfl, a, xs, rfl, .inr (.of ea), _, _, rfl, rfl, _, rfl, ite2 (fun h1 => ?_) (fun h1 => ?_)⟩
      · refine ⟨_, _, rfl, rfl, _, rfl, ite2 (fun h2 => ?_) (fun h2 => ?_)⟩
        · have e : isTable (.tuple ds) = false := by
            show (decide (1 ≤ ds.length ∧ ds.length ≤ 6) && _) = _
            rw [decide_eq_false, Bool.false_and]
            simp at h2
            omega
          rw [e] at q
          exact q H (.refl H)
        · have l1 : 1 ≤ ds.length ∧ ds.length ≤ 6 := by
            simp at h1 h2
            omega
          refine ⟨_, rfl, a, rfl, ⟨xs, .of ea⟩, fun D nD => lc_rel (walk_tup (K := K) (a := a) (xs := xs)) No (fun H i y => ∃ b, y = .bl b ∧ (ds.map (isRow ds.length))[i]? = some b) (fun _ _ _ _ _ r => r) nD (fun _ z => z.elim) (by omega)
            (fun H' k' => .of (k' _ _ id ea)) ?_ ?_⟩
          · rintro i x H1 _ Q' hi k1 _ ⟨rfl, hx⟩ q'
            obtain ⟨d, hd, dx⟩ := el.at hx
            have s1 := no_same k1
            refine ⟨rfl, _, rfl, _, rfl, a, xs, rfl, .inr (.of (s1 _ _ ea)), W, x, d, ds.length, by rw [hl]; rfl, dx.keep (Kp.same s1), by omega, fun H2 s2 => q' _ _ (Kp.same s2) ⟨_, rfl, by rw [List.getElem?_map, hd]; rfl⟩⟩
          · rintro H1 acc k1 eD hla ha
            refine ⟨D, ds.map (isRow ds.length), rfl, .of ?_, ?_⟩
            · rw [eD, bls_of (by rw [hla, List.length_map, hl]) ha]
            · have e : isTable (.tuple ds) = (ds.map (isRow ds.length)).all id := by
                show (decide (1 ≤ ds.length ∧ ds.length ≤ 6) && ds.all (isRow ds.length)) = _
                rw [decide_eq_true l1, Bool.true_and, List.all_map]
                rfl
              rw [e] at q
              exact q H1 (no_same k1)
      · have e : isTable (.tuple ds) = false := by
          show (decide (1 ≤ ds.length ∧ ds.length ≤ 6) && _) = _
          rw [decide_eq_false, Bool.false_and]
          simp at h1
          omega
        rw [e] at q
        exact ⟨_, rfl, q H (.refl H)⟩
    | _ => exact ifT rfl (q H (.refl H))
/-! ### what is led to -/
def kvT (S : List Nat) : List (Key × V) := S.map fun (j : Nat) => ((Sum.inl (j : Int) : Key), V.bl true)
theorem val_kvT : ∀ (S : List Nat) (j : Nat), valV (kvT S) (Sum.inl (j : Int) : Key) = if j ∈ S then some (.bl true) else none
  | [], j => rfl
  | i :: S, j => by
    by_cases e : i = j
    · subst e
      rw [if_pos List.mem_cons_self]
      exact valV_pos rfl
    · have h : valV (kvT (i :: S)) (Sum.inl (j : Int) : Key) = valV (kvT S) (Sum.inl (j : Int) : Key) := valV_neg fun z => e (by
        have := Sum.inl.inj z
        omega)
      rw [h, val_kvT S j]
      by_cases c : j ∈ S
      · rw [if_pos c, if_pos (List.mem_cons_of_mem _ c)]
      · rw [if_neg c, if_neg fun z => by
          rcases List.mem_cons.mp z with z | z
          · exact e z.symm
          · exact c z]
theorem put_kvT {S : List Nat} {j : Nat} (h : j ∉ S) : putK (kvT S) (Sum.inl (j : Int) : Key) (.bl true) = kvT (S ++ [j]) := by
  have e := val_kvT S j
  rw [if_neg h] at e
  rw [putK_new _ e]
  unfold kvT
  rw [List.map_append]
  rfl
def dlen (H : Hp) (a : Addr) : Nat := match H a with
  | some (.dK kvs) => kvs.length
  | _ => 0
def llen (H : Hp) (a : Addr) : Nat := match H a with
  | some (.lst xs) => xs.length
  | _ => 0
/-- rows of truths -/
def Links (K : PySem.W.Frag) (H : Hp) (a : Addr) (ls : List Addr) (B : Nat → Nat → Bool) : Prop := SqL K H a (ls.map V.ref) ∧ ∀ (i : Nat) l, ls[i]? = some l → SqL K H l ((List.range ls.length).map fun j => V.bl (B i j))
theorem Links.same {K : PySem.W.Frag} {H H' : Hp} {a : Addr} {ls : List Addr} {B : Nat → Nat → Bool} (s : Same H H') (h : Links K H a ls B) : Links K H' a ls B := ⟨s.seq h.1, fun i l e => s.seq (h.2 i l e)⟩
def spLeads (K : PySem.W.Frag) : Sp := fun vs H Q _ => ∃ (a : Addr) (ls : List Addr) (B : Nat → Nat → Bool), vs = [.ref a] ∧ Links K H a ls B ∧ 1 ≤ ls.length ∧ ls.length ≤ 1000 ∧
  ∀ H' b, Same H H' → (b = true ↔ ∀ j, j < ls.length → Reach (LE ls.length B) 0 j) → Q (.bl b) H'
/-- what is found, what is to be looked at -/
structure Fnd (n : Nat) (B : Nat → Nat → Bool) (S T : List Nat) : Prop where
  nd : S.Nodup
  ok : ∀ x ∈ S, x < n ∧ Reach (LE n B) 0 x
  z : 0 ∈ S
  sub : ∀ x ∈ T, x ∈ S
theorem ok_leads {f : Addr} {fd : FuncData} (F : Fun K "leads_to_all" "leads_to_all" sleads_to_all f fd) (M : Mb mg) : FnOk P w K mg base CX0 1 f fd ["links"] (spLeads K) := by
  refine F.ok cleads_to_all (fun vs H Q E h => ?_) (fun cdv A outer s H vs Q E hr h => ?_)
  · obtain ⟨a, ls, B, rfl, _⟩ := h
    rfl
  · obtain ⟨a, ls, B, rfl, hL, l1, l9, q⟩ := h
    have hu : (A.deeper (envOfC "leads_to_all" (defScope sleads_to_all) s.heap.objs.size f cdv)).units + 1 < cLine := Nat.lt_of_le_of_lt (Nat.add_le_add_left (by decide : 1 ≤ 64) _) hr.units
    refine ⟨_, (pss_cons (ps_par (i := 1) (j := 2) (by rfl) cleads_to_all.nd rfl rfl (by decide) rfl rfl (pa_cons (pe_disp (pps_cons pe_int pe_bl pps_nil) (by rfl) (by rfl) (fun z => by cases z) (by decide)) (pa_cons (pe_lst (pa_cons pe_int pa_nil)) pa_nil)) (by rfl))
 (pss_cons (ps_while PassesOwn.never (pt_truth (pv 2) (by intro _; rfl))
 (pss_cons (ps_set (i := 3) cleads_to_all.nd rfl (.inl rfl) (pe_bm0 PySem.F.plainAttrs_list PySem.F.slot_list_pop PySem.F.type_list_pop mt_pop (pv 2)))
 (pss_one (ps_for PassesOwn.never rfl (pi_enum (by rfl) M.enumerate (pa_cons (pe_ix ix_list (pv 0) (pv 3) (fun _ _ => rfl)) pa_nil)) (pg_tup rfl (pgs_cons (pg_name (i := 4) cleads_to_all.nd rfl (.inl rfl)) (pgs_cons (pg_name (i := 5) cleads_to_all.nd rfl (.inl rfl)) pgs_nil)))
 (pss_one (ps_if (PW.pt (pw_and (pt_val (pv 5)) (pw_and1 (pt_cmp (pc_dnotin hu (pv 4) (pv 1))))))
 (pss_cons (ps_dput hu (pv 1) (pv 4) pe_bl rfl)
 (pss_one (ps_expr (pe_bm PySem.F.plainAttrs_list PySem.F.slot_list_append PySem.F.type_list_append mt_append (pv 2) (pa_cons (pv 4) pa_nil)))))
 pss_nil))))))
 (pss_one (ps_ret (pe_cmpR op_eq (pe_callB call_lenD (by rfl) M.len (by decide +kernel) (pa_cons (pv 1) pa_nil)) (pe_callB call_len_seq (by rfl) M.len (by decide +kernel) (pa_cons (pv 0) pa_nil)) (nomark _)))))), ?_⟩
    refine fun fA nf => ?_
    refine ⟨upd_same, [((.inl 0 : Key), .bl true)], rfl, (by show 1 ≤ 15; decide), ?_⟩
    have s1 : Same H (upd (upd H fA (.dK [])) fA (.dK (mergeK [] [((.inl 0 : Key), .bl true)]))) := same_mut (same_new nf) nf
    have e1 : (upd (upd H fA (.dK [])) fA (.dK (mergeK [] [((.inl 0 : Key), .bl true)]))) fA = some (.dK (kvT [0])) := upd_same
    generalize upd (upd H fA (.dK [])) fA (.dK (mergeK [] [((.inl 0 : Key), .bl true)])) = H1 at s1 e1
    refine ⟨sz63 (by show 1 ≤ 1000; decide), fun wA nw => ⟨_, _, rfl, ?_⟩⟩
    have wf : fA ≠ wA := ne_of_none e1 nw
    have s2 : Same H (upd H1 wA (.lst [.int 0])) := s1.trans (same_new nw)
    have e2 : (upd H1 wA (.lst [.int 0])) fA = some (.dK (kvT [0])) := by rw [upd_ne wf]; exact e1
    dsimp only [tSeq]
    refine while_by (fun σ H' => ∃ S T y3 y4 y5, σ = [some (.ref a), some (.ref fA), some (.ref wA), y3, y4, y5] ∧ Same H H' ∧ H' fA = some (.dK (kvT S)) ∧ H' wA = some (.lst (T.map fun j : Nat => V.int j)) ∧ Fnd ls.length B S T ∧
      (∀ x ∈ S, x ∉ T → ∀ y, LE ls.length B x y → y ∈ S) ∧ 2 * (ls.length - S.length) + T.length ≤ 2 * ls.length) (fun _ H' => 2 * (ls.length - dlen H' fA) + llen H' wA) ?_ ?_ ?_
    · refine ⟨[0], [0], none, none, none, rfl, s2, e2, upd_same, ⟨by simp, fun x hx => ?_, List.mem_cons_self, fun x hx => hx⟩, fun x hx hn => absurd hx hn, by simp; omega⟩
      obtain rfl : x = 0 := by simpa using hx
      exact ⟨by omega, .refl⟩
    · rintro σ H2 ⟨S, T, y3, y4, y5, rfl, s3, ef, ew, Fn, cl, m0⟩
      refine ⟨_, rfl, _, .inl ⟨_, .of ew, rfl⟩, ?_⟩
      have hn := nodup_len ls.length S Fn.nd fun x hx => (Fn.ok x hx).1
      have tc : T = [] ∨ ∃ (T' : List Nat) (h : Nat), T = T' ++ [h] := by
        rcases List.eq_nil_or_concat T with e | ⟨T', h, e⟩
        · exact .inl e
        · exact .inr ⟨T', h, by rw [e, List.concat_eq_append]⟩
      rcases tc with rfl | ⟨T, h, rfl⟩
      · refine ifF (by simp) ⟨_, rfl, _, _, rfl, ef, _, rfl, a, _, rfl, .inl (s3.seq hL.1), rfl, ?_⟩
        refine q H2 _ s3 ?_
        have hS : ∀ j, j ∈ S ↔ Reach (LE ls.length B) 0 j := fun j =>
          ⟨fun hj => (Fn.ok j hj).2, fun hj => reach_of (S := fun x => x ∈ S) Fn.z (fun x y hx e => cl x hx (by simp) y e) hj⟩
        have hk : (kvT S).length = S.length := List.length_map _
        rw [hk, List.length_map, decide_eq_true_iff]
        constructor
        · intro z j hj
          have z' := V.int.inj z
          exact (hS j).mp (hn.2 (by omega) j hj)
        · intro z
          have hall : ∀ j, j < ls.length → j ∈ S := fun j hj => (hS j).mpr (z j hj)
          have hr' := nodup_len S.length (List.range ls.length) List.nodup_range
          have : ls.length ≤ S.length := by
            have h2 := List.Nodup.length_le_of_subset (l₁ := List.range ls.length) (l₂ := S) List.nodup_range fun j hj => hall j (List.mem_range.mp hj)
            rw [List.length_range] at h2
            exact h2
          rw [show S.length = ls.length by omega]
      · have hT : h ∈ S := Fn.sub h (by simp)
        have hlt := (Fn.ok h hT).1
        have hl : ls[h]? = some ls[h] := List.getElem?_eq_getElem hlt
        refine ifT (by simp) ?_
        refine ⟨_, rfl, .inl ⟨rfl, _, .of ew⟩, wA, _, .int h, rfl, rfl, ew, by simp, ?_⟩
        have ef2 : (upd H2 wA (.lst ((T ++ [h]).map fun j : Nat => V.int j).dropLast)) fA = some (.dK (kvT S)) := by rw [upd_ne wf]; exact ef
        have ew2 : (upd H2 wA (.lst ((T ++ [h]).map fun j : Nat => V.int j).dropLast)) wA = some (.lst (T.map fun j : Nat => V.int j)) := by
          rw [upd_same]
          simp
        have s4 : Same H (upd H2 wA (.lst ((T ++ [h]).map fun j : Nat => V.int j).dropLast)) := same_mut s3 (s1.free nw)
        generalize upd H2 wA (.lst ((T ++ [h]).map fun j : Nat => V.int j).dropLast) = H3 at ef2 ew2 s4
        refine ⟨_, rfl, _, rfl, a, _, (h : Int), .ref ls[h], rfl, rfl, s4.seq hL.1, atI_nat (by rw [List.getElem?_map, hl]; rfl), ls[h], _, rfl, s4.seq (hL.2 h _ hl), ?_⟩
        have ml : 2 * (ls.length - dlen H2 fA) + llen H2 wA = 2 * (ls.length - S.length) + (T.length + 1) := by
          unfold dlen llen
          rw [ef, ew]
          simp [kvT]
        rw [ml]
        have rl : ((List.range ls.length).map fun j => V.bl (B h j)).length = ls.length := by simp
        refine for_it (walk_enum (K := K) (a := ls[h]) (xs := (List.range ls.length).map fun j => V.bl (B h j)))
          (fun i σ H' => ∃ S2 T2 y4 y5, σ = [some (.ref a), some (.ref fA), some (.ref wA), some (.int h), y4, y5] ∧ Same H H' ∧ H' fA = some (.dK (kvT S2)) ∧ H' wA = some (.lst (T2.map fun j : Nat => V.int j)) ∧ Fnd ls.length B S2 T2 ∧ h ∈ S2 ∧
            (∀ x ∈ S2, x ∉ T2 → x ≠ h → ∀ y, LE ls.length B x y → y ∈ S2) ∧ (∀ y, y < i → LE ls.length B h y → y ∈ S2) ∧ 2 * (ls.length - S2.length) + T2.length + 1 ≤ 2 * (ls.length - S.length) + (T.length + 1))
          ?_ (fun i σ H' _ ⟨_, _, _, _, _, s5, _⟩ => s5.seq (hL.2 h _ hl)) ?_ ?_
        · refine ⟨S, T, y4, y5, rfl, s4, ef2, ew2, ⟨Fn.nd, Fn.ok, Fn.z, fun x hx => Fn.sub x (by simp [hx])⟩, hT, fun x hx hnt hne => cl x hx (by simp [hnt, hne]), fun y hy => absurd hy (Nat.not_lt_zero y), by omega⟩
        · rintro i x σ H4 H4' hi ⟨S2, T2, y4', y5', rfl, s5, ef5, ew5, Fn5, hS5, cl5, done5, m5⟩ ⟨t, v1, v2, rfl, nt, rfl, e1, e2⟩
          obtain rfl : V.int (i : Nat) = v1 := Option.some.inj e1
          rw [rl] at hi
          have e2' : V.bl (B h i) = v2 := by
            dsimp only at e2
            rw [List.getElem?_map, List.getElem?_range hi] at e2
            exact Option.some.inj e2
          subst e2'
          have s6 : Same H (upd H4 t (.tup [.int (i : Nat), .bl (B h i)])) := s5.trans (same_new nt)
          have ef6 : (upd H4 t (.tup [.int (i : Nat), .bl (B h i)])) fA = some (.dK (kvT S2)) := by rw [upd_ne (ne_of_none ef5 nt)]; exact ef5
          have ew6 : (upd H4 t (.tup [.int (i : Nat), .bl (B h i)])) wA = some (.lst (T2.map fun j : Nat => V.int j)) := by rw [upd_ne (ne_of_none ew5 nt)]; exact ew5
          have et6 : (upd H4 t (.tup [.int (i : Nat), .bl (B h i)])) t = some (.tup [.int (i : Nat), .bl (B h i)]) := upd_same
          generalize upd H4 t (.tup [.int (i : Nat), .bl (B h i)]) = H5 at s6 ef6 ew6 et6
          refine ⟨t, _, rfl, .of et6, rfl, _, _, rfl, _, _, rfl, rfl, ?_⟩
          have next : (∀ y, y < i + 1 → LE ls.length B h y → y ∈ S2) → ∃ S2 T2 y4 y5, ([some (.ref a), some (.ref fA), some (.ref wA), some (.int h), some (.int (i : Nat)), some (.bl (B h i))] : L2.St) = [some (.ref a), some (.ref fA), some (.ref wA), some (.int h), y4, y5] ∧ Same H H5 ∧ H5 fA = some (.dK (kvT S2)) ∧ H5 wA = some (.lst (T2.map fun j : Nat => V.int j)) ∧ Fnd ls.length B S2 T2 ∧ h ∈ S2 ∧
            (∀ x ∈ S2, x ∉ T2 → x ≠ h → ∀ y, LE ls.length B x y → y ∈ S2) ∧ (∀ y, y < i + 1 → LE ls.length B h y → y ∈ S2) ∧ 2 * (ls.length - S2.length) + T2.length + 1 ≤ 2 * (ls.length - S.length) + (T.length + 1) :=
            fun d => ⟨S2, T2, _, _, rfl, s6, ef6, ew6, Fn5, hS5, cl5, d, m5⟩
          refine ⟨_, rfl, _, rfl, ite2 (fun hb => ?_) (fun hb => ?_)⟩
          · refine ⟨_, rfl, _, rfl, fA, _, rfl, DGet.k (k := Sum.inl (i : Int)) ef6, _, rfl, ?_⟩
            rw [val_kvT]
            by_cases c : i ∈ S2
            · rw [if_pos c]
              refine ifF (by simp) (next fun y hy e => ?_)
              by_cases ey : y = i
              · rw [ey]
                exact c
              · exact done5 y (by omega) e
            · rw [if_neg c]
              refine ifT (by simp) ?_
              have nl := nodup_len ls.length S2 Fn5.nd fun x hx => (Fn5.ok x hx).1
              have hEi : LE ls.length B h i := ⟨hlt, hi, hb⟩
              have nd' : (S2 ++ [i]).Nodup := List.nodup_append.mpr ⟨Fn5.nd, by simp, fun x hx y hy e => by
                have : y = i := by simpa using hy
                rw [e, this] at hx
                exact c hx⟩
              have ok' : ∀ x ∈ S2 ++ [i], x < ls.length ∧ Reach (LE ls.length B) 0 x := fun x hx => by
                rcases List.mem_append.mp hx with hx | hx
                · exact Fn5.ok x hx
                · have : x = i := by simpa using hx
                  rw [this]
                  exact ⟨hi, (Fn5.ok h hS5).2.step hEi⟩
              have nl' := nodup_len ls.length (S2 ++ [i]) nd' fun x hx => (ok' x hx).1
              rw [List.length_append, List.length_singleton] at nl'
              refine ⟨_, rfl, _, rfl, fA, _, rfl, DPut.k (k := Sum.inl (i : Int)) ef6 (by
                have : (kvT S2).length = S2.length := List.length_map _
                exact sz63' (by omega)), ?_⟩
              rw [put_kvT c]
              have ew7 : (upd H5 fA (.dK (kvT (S2 ++ [i])))) wA = some (.lst (T2.map fun j : Nat => V.int j)) := by rw [upd_ne (Ne.symm wf)]; exact ew6
              have s7 : Same H (upd H5 fA (.dK (kvT (S2 ++ [i])))) := same_mut s6 nf
              have ef7 : (upd H5 fA (.dK (kvT (S2 ++ [i])))) fA = some (.dK (kvT (S2 ++ [i]))) := upd_same
              generalize upd H5 fA (.dK (kvT (S2 ++ [i]))) = H6 at ew7 s7 ef7
              have tl : T2.length ≤ ls.length + ls.length + 1 := by
                rw [List.length_append, List.length_singleton] at m0
                omega
              refine ⟨_, rfl, .inl ⟨rfl, _, .of ew7⟩, _, rfl, wA, _, _, rfl, rfl, ew7, by rw [List.length_map]; exact Nat.lt_of_le_of_lt (show T2.length ≤ 3000 by omega) (by decide), ?_⟩
              refine ⟨S2 ++ [i], T2 ++ [i], _, _, rfl, same_mut s7 (s1.free nw), by rw [upd_ne wf]; exact ef7, by rw [upd_same, List.map_append]; rfl, ⟨nd', ok', List.mem_append_left _ Fn5.z, fun x hx => ?_⟩, List.mem_append_left _ hS5, fun x hx hnt hne y e => ?_, fun y hy e => ?_, ?_⟩
              · rcases List.mem_append.mp hx with hx | hx
                · exact List.mem_append_left _ (Fn5.sub x hx)
                · exact List.mem_append_right _ hx
              · rcases List.mem_append.mp hx with hx | hx
                · exact List.mem_append_left _ (cl5 x hx (fun z => hnt (List.mem_append_left _ z)) hne y e)
                · exact absurd (List.mem_append_right _ hx) hnt
              · by_cases ey : y = i
                · rw [ey]
                  simp
                · exact List.mem_append_left _ (done5 y (by omega) e)
              · rw [List.length_append, List.length_append, List.length_singleton]
                omega
          · refine next fun y hy e => ?_
            by_cases ey : y = i
            · rw [ey] at e
              exact absurd e.2.2 hb
            · exact done5 y (by omega) e
        · rintro σ H4 ⟨S2, T2, y4', y5', rfl, s5, ef5, ew5, Fn5, hS5, cl5, done5, m5⟩
          refine ⟨⟨S2, T2, _, _, _, rfl, s5, ef5, ew5, Fn5, fun x hx hnt y e => ?_, by rw [List.length_append, List.length_singleton] at m0; omega⟩, ?_⟩
          · by_cases ex : x = h
            · rw [ex] at e
              exact done5 y (by rw [rl]; exact e.2.1) e
            · exact cl5 x hx hnt ex y e
          · have ml2 : 2 * (ls.length - dlen H4 fA) + llen H4 wA = 2 * (ls.length - S2.length) + T2.length := by
              unfold dlen llen
              rw [ef5, ew5]
              simp [kvT]
            rw [ml2]
            omega
    · rintro σ H2 Q1 Q2 hq ⟨v, e, k, t, q⟩
      exact ⟨v, e, k, t, hq _ _ q⟩
/-- does each place of a table lead to each -/
def spWhole : Sp := fun vs H Q _ => ∃ (W : Addr → Prop) (v : V) (m : List (List Rat)), vs = [v] ∧ Dq W H v (tabD m) ∧ Tab m ∧ ∀ H' b, Same H H' → (b = true ↔ Strong m) → Q (.bl b) H'
theorem ok_whole {f : Addr} {fd : FuncData} (F : Fun K "is_whole_table" "is_whole_table" sis_whole_table f fd) (M : Mb mg) (Dleads_to_all : Df P w K mg base 1 "leads_to_all" ["links"] (spLeads K)) :
    FnOk P w K mg base CX0 2 f fd ["table"] spWhole := by
  refine F.ok cis_whole_table (fun vs H Q E h => ?_) (fun cdv A outer s H vs Q E hr h => ?_)
  · obtain ⟨_, v, m, rfl, _⟩ := h
    rfl
  · obtain ⟨W, v, m, rfl, hd, T, q⟩ := h
    refine ⟨_, (pss_cons (ps_setLc (i := 1) (own := [("row", 2)]) rfl cis_whole_table.nd rfl rfl (sw_true rfl rfl rfl (by decide +kernel)) (pi_tup (pv 0)) (blkOk_by (own := [("row", 2)]) (N := nis_whole_table) (sc := defScope sis_whole_table) (by decide +kernel)) (fun _ _ _ _ _ => (pg_name (i := 2) cis_whole_table.nd rfl (.inl rfl))) (fun _ _ _ _ _ => pts_nil) (fun _ _ _ _ _ => (by exact (pe_lc (own := [("number", 3)]) rfl cis_whole_table.nd (pi_tupK (K := K) rfl (pv 2)) (blkOk_by (by rfl)) (fun _ _ _ _ _ => (pg_name (i := 3) cis_whole_table.nd rfl (.inl rfl))) (fun _ _ _ _ _ => pts_nil) (fun _ _ _ _ _ => (pe_cmpR op_gt (pe_ix (ix_tupK (K := K) rfl) (pv 3) pe_int (fun _ _ => rfl)) pe_int (nomark _)))))))
 (pss_cons (ps_setLc (i := 4) (own := [("column", 5)]) rfl cis_whole_table.nd rfl rfl (sw_true rfl rfl rfl (by decide +kernel)) (Bz.pi_zipN (by rfl) M.zip (pv 1)) (blkOk_by (own := [("column", 5)]) (N := nis_whole_table) (sc := defScope sis_whole_table) (by decide +kernel)) (fun _ _ _ _ _ => (pg_name (i := 5) cis_whole_table.nd rfl (.inl rfl))) (fun _ _ _ _ _ => pts_nil) (fun _ _ _ _ _ => (pe_callTy (call_lstK (K := K) rfl) (by rfl) M.list (by decide +kernel) (pa_cons (pv 5) pa_nil))))
 (pss_one (ps_ret (pe_and (pe_call Dleads_to_all.G (hr.mono (by first | decide | omega)) rfl Dleads_to_all.g Dleads_to_all.kp Dleads_to_all.b .nil pass0 (pa_cons (pv 1) pa_nil)) (pe_one (pe_call Dleads_to_all.G (hr.mono (by first | decide | omega)) rfl Dleads_to_all.g Dleads_to_all.kp Dleads_to_all.b .nil pass0 (pa_cons (pv 4) pa_nil)))))))), ?_⟩
    obtain ⟨a, xs, rfl, na, ea, el⟩ := hd.tupI
    have hl : xs.length = m.length := by
      have := el.length
      rwa [List.length_map] at this
    have l6 := T.l6
    have l1 := T.l1
    -- links
    refine ⟨_, rfl, a, rfl, ⟨xs, .of ea⟩, fun D nD => lc_rel (walk_tup (K := K) (a := a) (xs := xs)) No
      (fun H i y => ∃ l, y = .ref l ∧ l ≠ D ∧ H l = some (.lst ((List.range m.length).map fun j => .bl (posB m i j))))
      (fun H H' i v k r => ?_) nD (fun _ z => z.elim) (by omega) (fun H' k' => .of (k' _ _ id ea)) ?_ ?_⟩
    · obtain ⟨l, rfl, ne, e⟩ := r
      exact ⟨l, rfl, ne, k _ _ (fun z => z.elim id ne) e⟩
    · rintro i x H1 _ Q' hi k1 nD1 ⟨rfl, hx⟩ q'
      refine ⟨rfl, ?_⟩
      obtain ⟨d, hd2, dx⟩ := el.at hx
      obtain ⟨r, hr1, rfl⟩ : ∃ r, m[i]? = some r ∧ rowD r = d := by
        rw [List.getElem?_map] at hd2
        cases z : m[i]? with
        | none =>
          rw [z] at hd2
          cases hd2
        | some r =>
          rw [z] at hd2
          exact ⟨r, rfl, Option.some.inj hd2⟩
      obtain ⟨b, ys, rfl, nb, eb, er⟩ := (dx.keep (Kp.same (no_same k1))).tupI
      have fr := dq_row (K := K) er
      have rl := T.rows r (List.mem_of_getElem? hr1)
      have yl := fr.1
      refine ⟨_, rfl, b, rfl, ⟨ys, .of eb⟩, fun D2 nD2 => lc_rel (walk_tup (K := K) (a := b) (xs := ys)) No (fun H j y => y = .bl (posB m i j)) (fun _ _ _ _ _ r => r) nD2 (fun _ z => z.elim) (by omega)
        (fun H' k' => .of (k' _ _ id eb)) ?_ ?_⟩
      · rintro j y H2 _ Q2 hj k2 _ ⟨rfl, hy⟩ q2
        have hq : r[j]? = some (r[j]'(by omega)) := List.getElem?_eq_getElem (by omega)
        obtain ⟨p, rfl, hp⟩ := (fr.2 j y _ hy hq).same (no_same k2)
        refine ⟨rfl, _, rfl, p, _, 0, _, rfl, rfl, hp, rfl, _, _, rfl, rfl, q2 _ _ (.refl _) ?_⟩
        rw [posB_of hr1 hq]
        exact congrArg V.bl (decide_eq_decide.mpr Bq.num_pos)
      · rintro H2 acc k2 eD2 hla ha
        refine q' _ _ k2 ⟨D2, rfl, fun z => ?_, ?_⟩
        · rw [z] at nD2
          exact nD1 nD2
        · rw [eD2, list_of (n := m.length) (by omega) ha]
    · rintro H1 acc k1 eD hla ha
      obtain ⟨ls, rfl, hls⟩ := refs_of (P := fun i l => l ≠ D ∧ H1 l = some (.lst ((List.range m.length).map fun j => .bl (posB m i j)))) fun i v e => ha i v e
      rw [List.length_map] at hla
      have lsl : ls.length = m.length := by omega
      have s1 := no_same k1
      have rows : ∀ {H'}, Same H1 H' → ∀ (i : Nat) l, ls[i]? = some l → SqL K H' l ((List.range m.length).map fun j => V.bl (posB m i j)) := fun s i l e => .of (s _ _ (hls i l e).2)
      -- turned
      refine ⟨_, rfl, D, ls, rfl, .inr (.of eD), by omega, by omega, fun l hl => ?_, fun D2 nD2 => ?_⟩
      · obtain ⟨i, hi⟩ := List.mem_iff_getElem?.mp hl
        exact ⟨_, rows (.refl _) i l hi⟩
      refine lc_rel (Bz.walk_zipN (K := K) (as := ls) (rows := fun i => (List.range m.length).map fun j => V.bl (posB m i j)) (n := m.length) (by omega) (fun i _ => by simp)) No
        (fun H i y => ∃ l, y = .ref l ∧ l ≠ D2 ∧ H l = some (.lst ((List.range m.length).map fun j => .bl (posB m j i))))
        (fun H H' i v k r => ?_) nD2 (fun _ z => z.elim) (by omega) (fun H' k' => rows (no_same k')) ?_ ?_
      · obtain ⟨l, rfl, ne, e⟩ := r
        exact ⟨l, rfl, ne, k _ _ (fun z => z.elim id ne) e⟩
      · rintro i x H2 H3 Q2 hi k2 nD3 ⟨t, vs, rfl, nt, rfl, hvl, hvs⟩ q2
        refine ⟨rfl, _, rfl, t, vs, rfl, .inr (.of upd_same), fun l nl => q2 _ _ ((Kp.refl _).upd nt |>.upd ?_) ⟨l, rfl, ?_, ?_⟩⟩
        · exact (same_new nt).free nl
        · intro z
          rw [z] at nl
          exact nD3 ((same_new nt).free nl)
        · rw [upd_same]
          congr 2
          refine list_of (by omega) fun j v e => ?_
          have hj : j < ls.length := by
            rw [← hvl]
            exact (List.getElem?_eq_some_iff.mp e).1
          have e2 := hvs j _ (List.getElem?_eq_getElem hj)
          rw [e, List.getElem?_map, List.getElem?_range hi] at e2
          exact Option.some.inj e2
      · rintro H2 acc2 k2 eD2 hla2 ha2
        obtain ⟨ls2, rfl, hls2⟩ := refs_of (P := fun i l => l ≠ D2 ∧ H2 l = some (.lst ((List.range m.length).map fun j => .bl (posB m j i)))) fun i v e => ha2 i v e
        rw [List.length_map] at hla2
        have s2 := no_same k2
        refine ⟨_, rfl, D, ls, posB m, rfl, ⟨.of (s2 _ _ eD), fun i l e => by rw [lsl]; exact rows s2 i l e⟩, by omega, by omega, fun H3 b1 s3 hb1 => ⟨_, rfl, ite2 (fun c => ?_) (fun c => ?_)⟩⟩
        · refine ⟨_, rfl, D2, ls2, (fun x y => posB m y x), rfl, ⟨.of (s3 _ _ eD2), fun i l e => by rw [hla2]; exact .of (s3 _ _ (hls2 i l e).2)⟩, by omega, by omega, fun H4 b2 s4 hb2 => q H4 _ (((s1.trans s2).trans s3).trans s4) ?_⟩
          rw [strong_by T]
          rw [lsl] at hb1
          rw [hla2] at hb2
          exact ⟨fun z => ⟨hb1.mp c, hb2.mp z⟩, fun z => hb2.mpr z.2⟩
        · rw [lsl] at hb1
          exact q H3 false ((s1.trans s2).trans s3) ⟨(fun z => nomatch z), fun z => absurd (hb1.mpr ((strong_by T).mp z).1) c⟩
end
end Kx
/-! The law's own fractions. -/
namespace Kx
open PySem PySem.Spec PyProof.Rows L2 Bw
abbrev s_law_frac : Stmt := topS 46
abbrev n_law_frac : List Str := ["up", "down", "here", "there"]
theorem c_law_frac : FnScope n_law_frac ["up", "down"] (defScope s_law_frac) :=
  ⟨rfl, rfl, rfl, by decide +kernel, rfl, by decide +kernel, by decide +kernel⟩

abbrev s_law_plus : Stmt := topS 47
abbrev n_law_plus : List Str := ["here", "there"]
theorem c_law_plus : FnScope n_law_plus ["here", "there"] (defScope s_law_plus) :=
  ⟨rfl, rfl, rfl, by decide +kernel, rfl, by decide +kernel, by decide +kernel⟩

abbrev s_law_over : Stmt := topS 49
abbrev n_law_over : List Str := ["here", "there"]
theorem c_law_over : FnScope n_law_over ["here", "there"] (defScope s_law_over) :=
  ⟨rfl, rfl, rfl, by decide +kernel, rfl, by decide +kernel, by decide +kernel⟩

abbrev s_law_total : Stmt := topS 50
abbrev n_law_total : List Str := ["parts", "found", "part"]
theorem c_law_total : FnScope n_law_total ["parts"] (defScope s_law_total) :=
  ⟨rfl, rfl, rfl, by decide +kernel, rfl, by decide +kernel, by decide +kernel⟩

abbrev s_law_over_sum : Stmt := topS 51
abbrev n_law_over_sum : List Str := ["row", "whole", "part"]
theorem c_law_over_sum : FnScope n_law_over_sum ["row"] (defScope s_law_over_sum) :=
  ⟨rfl, rfl, rfl, by decide +kernel, rfl, by decide +kernel, by decide +kernel⟩


section
variable {P : Program} {w : World} {K : PySem.W.Frag} {mg : Str → Option Value} {base : Heap}

def slotN (σ : L2.St) (i : Nat) : Nat := match σ[i]? with
  | some (some (.int t)) => t.toNat
  | _ => 0
theorem ok_lfrac {f : Addr} {fd : FuncData} (F : Fun K "_law_frac" "_law_frac" s_law_frac f fd) (M : Mb mg) : FnOk P w K mg base CX0 1 f fd ["up", "down"] spLowest := by
  refine F.ok c_law_frac (fun vs H Q E h => ?_) (fun cdv A outer s H vs Q E hr h => ?_)
  · obtain ⟨a, b, n, rfl, _⟩ := h
    rfl
  · obtain ⟨a, b, n, rfl, hb, hn, h9, q⟩ := h
    refine ⟨_, (pss_cons (ps_par (i := 2) (j := 3) (by rfl) c_law_frac.nd rfl rfl (by decide) rfl rfl (pa_cons (pe_callB call_abs (by rfl) M.abs (by decide +kernel) (pa_cons (pv 0) pa_nil)) (pa_cons (pv 1) pa_nil)) (by rfl))
 (pss_cons (ps_while PassesOwn.never (pt_cmpR op_gt (pv 3) pe_int (nomark _))
 (pss_one (ps_par (i := 2) (j := 3) (by rfl) c_law_frac.nd rfl rfl (by decide) rfl rfl (pa_cons (pv 3) (pa_cons (pe_op op_mod (pe_callTy call_int1 (by rfl) M.int (by decide +kernel) (pa_cons (pv 2) pa_nil)) (pv 3)) pa_nil)) (by rfl))))
 (pss_one (ps_ret (pe_tup (pa_cons (pe_op op_fdivW (pv 0) (pv 2)) (pa_cons (pe_op op_fdivW (pv 1) (pv 2)) pa_nil))))))), ?_⟩
    refine ⟨_, rfl, a, rfl, _, rfl, _, _, rfl, ?_⟩
    dsimp only [tSeq]
    refine while_by (fun σ H' => H' = H ∧ ∃ x y : Nat, σ = [some (.int a), some (.int b), some (.int x), some (.int y)] ∧ Nat.gcd x y = Nat.gcd a.natAbs b.natAbs) (fun σ _ => slotN σ 3) ?_ ?_ ?_
    · refine ⟨rfl, a.natAbs, b.natAbs, ?_, rfl⟩
      have e1 : ((b.natAbs : Nat) : Int) = b := by omega
      have e2 : (if a < 0 then -a else a) = ((a.natAbs : Nat) : Int) := by
        split <;> omega
      rw [e1, e2]
      rfl
    · rintro σ H1 ⟨rfl, x, y, rfl, hg⟩
      refine ⟨_, rfl, _, _, rfl, rfl, _, rfl, ite2 (fun c => ?_) (fun c => ?_)⟩
      · have hy : 0 < y := by
          have := of_decide_eq_true c
          omega
        refine ⟨_, rfl, _, rfl, .inl ⟨_, rfl, _, rfl, _, _, rfl, rfl, (show (0 : Int) < y by omega), ?_⟩⟩
        refine ⟨_, _, rfl, ⟨rfl, y, x % y, rfl, ?_⟩, ?_⟩
        · rw [← hg, Nat.gcd_comm x y, Nat.gcd_rec y x]
          exact Nat.gcd_comm _ _
        · show (((x : Int) % (y : Int))).toNat < ((y : Int)).toNat
          have h1 : (x : Int) % (y : Int) = ((x % y : Nat) : Int) := rfl
          rw [h1]
          have := Nat.mod_lt x hy
          omega
      · have hy : y = 0 := by
          simp at c
          omega
        subst hy
        rw [Nat.gcd_zero_right] at hg
        have hg0 : 0 < Nat.gcd a.natAbs b.natAbs := Nat.gcd_pos_of_pos_right _ (by omega)
        have hg2 : Nat.gcd a.natAbs b.natAbs ≤ b.natAbs := Nat.gcd_le_right _ (by omega)
        have hn0 : 0 < n := by
          cases n with
          | zero => omega
          | succ n => omega
        subst hg
        have cd : CDivW a ((Nat.gcd a.natAbs b.natAbs : Nat) : Int) := wide_div (b := n) (by omega) (by omega) hn0 h9
        refine ⟨_, rfl, _, rfl, _, _, rfl, rfl, cd, _, rfl, _, rfl, _, _, rfl, rfl, cd, sz63 (by show 2 ≤ 1000; decide), fun p hp => ?_⟩
        have q' := q p hp
        rw [Bq.q_num hb, Bq.q_den hb] at q'
        exact q'
    · rintro σ H2 Q1 Q2 hq ⟨v, e, i, j, e1, e2, k, e3, q⟩
      exact ⟨v, e, i, j, e1, e2, k, e3, hq _ _ q⟩
theorem ok_lplus {f : Addr} {fd : FuncData} (F : Fun K "_law_plus" "_law_plus" s_law_plus f fd) (M : Mb mg) (Dlaw_frac : Df P w K mg base 1 "_law_frac" ["up", "down"] spLowest) : FnOk P w K mg base CX0 2 f fd ["here", "there"] (spPlus K) := by
  refine F.ok c_law_plus (fun vs H Q E h => ?_) (fun cdv A outer s H vs Q E hr h => ?_)
  · obtain ⟨v, u, p, q, m, n, rfl, _⟩ := h
    rfl
  · obtain ⟨v, u, p, r, m, n, rfl, ⟨a, rfl, ha⟩, ⟨b, rfl, hb⟩, sp, sr, hmn, q⟩ := h
    refine ⟨_, (pss_one (ps_ret (pe_call Dlaw_frac.G (hr.mono (by first | decide | omega)) rfl Dlaw_frac.g Dlaw_frac.kp Dlaw_frac.b .nil pass0 (pa_cons (pe_op op_add (pe_op op_mulW (pe_ix ix_tup (pv 0) pe_int (fun _ _ => rfl)) (pe_ix ix_tup (pv 1) pe_int (fun _ _ => rfl))) (pe_op op_mulW (pe_ix ix_tup (pv 1) pe_int (fun _ _ => rfl)) (pe_ix ix_tup (pv 0) pe_int (fun _ _ => rfl)))) (pa_cons (pe_op op_mulW (pe_ix ix_tup (pv 0) pe_int (fun _ _ => rfl)) (pe_ix ix_tup (pv 1) pe_int (fun _ _ => rfl))) pa_nil))))), ?_⟩
    have m0 := sz_pos sp
    have n0 := sz_pos sr
    refine ⟨_, rfl, a, _, 0, _, rfl, rfl, ha, rfl, _, rfl, b, _, 1, _, rfl, rfl, hb, rfl, _, _, rfl, rfl, mulW sp.1 (Bq.den_abs sr) m0 n0 hmn, ?_⟩
    refine ⟨_, rfl, b, _, 0, _, rfl, rfl, hb, rfl, _, rfl, a, _, 1, _, rfl, rfl, ha, rfl, _, _, rfl, rfl, mulW sr.1 (Bq.den_abs sp) n0 m0 (by omega), ?_⟩
    refine ⟨_, _, rfl, rfl, ?_⟩
    refine ⟨_, rfl, a, _, 1, _, rfl, rfl, ha, rfl, _, rfl, b, _, 1, _, rfl, rfl, hb, rfl, _, _, rfl, rfl, mulW (Bq.den_abs sp) (Bq.den_abs sr) m0 n0 hmn, ?_⟩
    refine ⟨_, _, m + n, rfl, Bq.dens_pos p r, Bq.dens sp sr, hmn, fun x hx => ?_⟩
    have q' := q x hx
    rw [← Bq.q_add] at q'
    exact q'
/-- one fraction over another one, above 0 -/
def spOver (K : PySem.W.Frag) : Sp := fun vs H Q _ => ∃ (v u : V) (p q : Rat) (m n : Nat), vs = [v, u] ∧ FrR K H v p ∧ FrR K H u q ∧ Bq.Sz m p ∧ Bq.Sz n q ∧ m + n ≤ 9000 ∧ 0 < q ∧
  ∀ a, H a = none → Q (.ref a) (upd H a (.tup [.int (p / q).num, .int (p / q).den]))
theorem ok_lover {f : Addr} {fd : FuncData} (F : Fun K "_law_over" "_law_over" s_law_over f fd) (M : Mb mg) (Dlaw_frac : Df P w K mg base 1 "_law_frac" ["up", "down"] spLowest) : FnOk P w K mg base CX0 2 f fd ["here", "there"] (spOver K) := by
  refine F.ok c_law_over (fun vs H Q E h => ?_) (fun cdv A outer s H vs Q E hr h => ?_)
  · obtain ⟨v, u, p, q, m, n, rfl, _⟩ := h
    rfl
  · obtain ⟨v, u, p, r, m, n, rfl, ⟨a, rfl, ha⟩, ⟨b, rfl, hb⟩, sp, sr, hmn, r0, q⟩ := h
    refine ⟨_, (pss_one (ps_ret (pe_call Dlaw_frac.G (hr.mono (by first | decide | omega)) rfl Dlaw_frac.g Dlaw_frac.kp Dlaw_frac.b .nil pass0 (pa_cons (pe_op op_mulW (pe_ix ix_tup (pv 0) pe_int (fun _ _ => rfl)) (pe_ix ix_tup (pv 1) pe_int (fun _ _ => rfl))) (pa_cons (pe_op op_mulW (pe_ix ix_tup (pv 0) pe_int (fun _ _ => rfl)) (pe_ix ix_tup (pv 1) pe_int (fun _ _ => rfl))) pa_nil))))), ?_⟩
    have m0 := sz_pos sp
    have n0 := sz_pos sr
    have rn := Bq.num_pos.mpr r0
    refine ⟨_, rfl, a, _, 0, _, rfl, rfl, ha, rfl, _, rfl, b, _, 1, _, rfl, rfl, hb, rfl, _, _, rfl, rfl, mulW sp.1 (Bq.den_abs sr) m0 n0 hmn, ?_⟩
    refine ⟨_, rfl, a, _, 1, _, rfl, rfl, ha, rfl, _, rfl, b, _, 0, _, rfl, rfl, hb, rfl, _, _, rfl, rfl, mulW (Bq.den_abs sp) sr.1 m0 n0 hmn, ?_⟩
    refine ⟨_, _, m + n, rfl, Int.mul_pos (Bq.den_pos p) rn, Bq.mul_lt (Bq.den_abs sp) sr.1, hmn, fun x hx => ?_⟩
    have q' := q x hx
    rw [← Bq.q_div] at q'
    exact q'
/-- the sum of a row, a new fraction -/
def spSum (K : PySem.W.Frag) (S : Hp → Addr → List V → Prop) : Sp := fun vs H Q _ => ∃ (a : Addr) (xs : List V) (qs : List Rat) (n : Nat), vs = [.ref a] ∧ S H a xs ∧ FrRow K H xs qs ∧ (∀ q ∈ qs, Bq.Sz n q) ∧ 1 + qs.length * (n + 1) ≤ 9000 ∧
  ∀ v H', Same H H' → Dq (Old H) H' v (frD (Bq.sumQ qs)) → Q v H'
theorem ok_ltotalT {f : Addr} {fd : FuncData} (F : Fun K "_law_total" "_law_total" s_law_total f fd) (M : Mb mg) (Dlaw_plus : Df P w K mg base 2 "_law_plus" ["here", "there"] (spPlus K)) :
    FnOk P w K mg base CX0 3 f fd ["parts"] (spSum K (SqT K)) := by
  refine F.ok c_law_total (fun vs H Q E h => ?_) (fun cdv A outer s H vs Q E hr h => ?_)
  · obtain ⟨a, xs, qs, n, rfl, _⟩ := h
    rfl
  · obtain ⟨a, xs, qs, n, rfl, ha, hx, hs, hn, q⟩ := h
    refine ⟨_, (pss_cons (ps_set (i := 1) c_law_total.nd rfl (.inl rfl) (pe_tup (pa_cons pe_int (pa_cons pe_int pa_nil))))
 (pss_cons (ps_for PassesOwn.never rfl (pi_tup (pv 0)) (pg_name (i := 2) c_law_total.nd rfl (.inl rfl))
 (pss_one (ps_set (i := 1) c_law_total.nd rfl (.inl rfl) (pe_call Dlaw_plus.G (hr.mono (by first | decide | omega)) rfl Dlaw_plus.g Dlaw_plus.kp Dlaw_plus.b .nil pass0 (pa_cons (pv 1) (pa_cons (pv 2) pa_nil))))))
 (pss_one (ps_ret (pv 1))))), ?_⟩
    refine ⟨sz63 (by show 2 ≤ 1000; decide), fun z0 n0 => ?_⟩
    refine ⟨_, rfl, a, rfl, ⟨_, same_tup (same_new n0) ha⟩, for_tup (K := K) (a := a) (xs := xs)
      (fun i σ H' => ∃ v y, σ = [some (.ref a), some v, y] ∧ Same H H' ∧ Dq (Old H) H' v (frD (Bq.sumQ (qs.take i))))
      ⟨_, none, rfl, same_new n0, fr_dq (fun z => z n0) upd_same⟩ (fun i σ H' _ ⟨_, _, _, s, _⟩ => same_tup s ha) ?_ ?_⟩
    · rintro i x σ H1 hi ⟨v, y, rfl, s1, hv⟩
      have hl : i < qs.length := by
        rw [← hx.1]
        exact (List.getElem?_eq_some_iff.mp hi).1
      have e : qs[i]? = some qs[i] := List.getElem?_eq_getElem hl
      have hb : i * (n + 1) + (n + 1) ≤ qs.length * (n + 1) := by
        rw [← Nat.succ_mul]
        exact Nat.mul_le_mul_right _ hl
      refine ⟨_, rfl, _, rfl, v, x, _, _, 1 + i * (n + 1), n, rfl, hv.fr, (hx.2 i x _ hi e).same s1, sz_take hs i (by omega), hs _ (List.mem_of_getElem? e), by omega, fun p hp => ?_⟩
      rw [← sum_take e]
      exact ⟨_, _, rfl, s1.trans (same_new hp), fr_dq (fun z => z (s1.free hp)) upd_same⟩
    · rintro σ H1 ⟨v, y, rfl, s1, hv⟩
      rw [hx.1, List.take_length] at hv
      exact ⟨_, rfl, q v H1 s1 hv⟩
theorem ok_ltotalL {f : Addr} {fd : FuncData} (F : Fun K "_law_total" "_law_total" s_law_total f fd) (M : Mb mg) (Dlaw_plus : Df P w K mg base 2 "_law_plus" ["here", "there"] (spPlus K)) :
    FnOk P w K mg base CX0 3 f fd ["parts"] (spSum K (SqL K)) := by
  refine F.ok c_law_total (fun vs H Q E h => ?_) (fun cdv A outer s H vs Q E hr h => ?_)
  · obtain ⟨a, xs, qs, n, rfl, _⟩ := h
    rfl
  · obtain ⟨a, xs, qs, n, rfl, ha, hx, hs, hn, q⟩ := h
    refine ⟨_, (pss_cons (ps_set (i := 1) c_law_total.nd rfl (.inl rfl) (pe_tup (pa_cons pe_int (pa_cons pe_int pa_nil))))
 (pss_cons (ps_for PassesOwn.never rfl (pi_list (pv 0)) (pg_name (i := 2) c_law_total.nd rfl (.inl rfl))
 (pss_one (ps_set (i := 1) c_law_total.nd rfl (.inl rfl) (pe_call Dlaw_plus.G (hr.mono (by first | decide | omega)) rfl Dlaw_plus.g Dlaw_plus.kp Dlaw_plus.b .nil pass0 (pa_cons (pv 1) (pa_cons (pv 2) pa_nil))))))
 (pss_one (ps_ret (pv 1))))), ?_⟩
    refine ⟨sz63 (by show 2 ≤ 1000; decide), fun z0 n0 => ?_⟩
    refine ⟨_, rfl, a, rfl, ⟨_, (same_new n0).seq ha⟩, for_list (K := K) (a := a) (xs := xs)
      (fun i σ H' => ∃ v y, σ = [some (.ref a), some v, y] ∧ Same H H' ∧ Dq (Old H) H' v (frD (Bq.sumQ (qs.take i))))
      ⟨_, none, rfl, same_new n0, fr_dq (fun z => z n0) upd_same⟩ (fun i σ H' _ ⟨_, _, _, s, _⟩ => s.seq ha) ?_ ?_⟩
    · rintro i x σ H1 hi ⟨v, y, rfl, s1, hv⟩
      have hl : i < qs.length := by
        rw [← hx.1]
        exact (List.getElem?_eq_some_iff.mp hi).1
      have e : qs[i]? = some qs[i] := List.getElem?_eq_getElem hl
      have hb : i * (n + 1) + (n + 1) ≤ qs.length * (n + 1) := by
        rw [← Nat.succ_mul]
        exact Nat.mul_le_mul_right _ hl
      refine ⟨_, rfl, _, rfl, v, x, _, _, 1 + i * (n + 1), n, rfl, hv.fr, (hx.2 i x _ hi e).same s1, sz_take hs i (by omega), hs _ (List.mem_of_getElem? e), by omega, fun p hp => ?_⟩
      rw [← sum_take e]
      exact ⟨_, _, rfl, s1.trans (same_new hp), fr_dq (fun z => z (s1.free hp)) upd_same⟩
    · rintro σ H1 ⟨v, y, rfl, s1, hv⟩
      rw [hx.1, List.take_length] at hv
      exact ⟨_, rfl, q v H1 s1 hv⟩
/-- each of a row over the sum of all -/
def spOverSum (K : PySem.W.Frag) : Sp := fun vs H Q _ => ∃ (a : Addr) (xs : List V) (qs : List Rat) (n : Nat), vs = [.ref a] ∧ SqL K H a xs ∧ FrRow K H xs qs ∧ (∀ q ∈ qs, Bq.Sz n q) ∧ qs.length ≤ 100 ∧ 1 + qs.length * (n + 1) + n ≤ 9000 ∧ 0 < Bq.sumQ qs ∧
  ∀ v H', Same H H' → Dq (Old H) H' v (rowD (qs.map fun q => q / Bq.sumQ qs)) → Q v H'
theorem ok_loversum {f : Addr} {fd : FuncData} (F : Fun K "_law_over_sum" "_law_over_sum" s_law_over_sum f fd) (M : Mb mg) (Dlaw_over : Df P w K mg base 2 "_law_over" ["here", "there"] (spOver K))
    (Dlaw_total : Df P w K mg base 3 "_law_total" ["parts"] (spSum K (SqL K))) : FnOk P w K mg base CX0 4 f fd ["row"] (spOverSum K) := by
  refine F.ok c_law_over_sum (fun vs H Q E h => ?_) (fun cdv A outer s H vs Q E hr h => ?_)
  · obtain ⟨a, xs, qs, n, rfl, _⟩ := h
    rfl
  · obtain ⟨a, xs, qs, n, rfl, ha, hx, hs, hl, hn, h0, q⟩ := h
    refine ⟨_, (pss_cons (ps_set (i := 1) c_law_over_sum.nd rfl (.inr rfl) (pe_call Dlaw_total.G (hr.mono (by first | decide | omega)) rfl Dlaw_total.g Dlaw_total.kp Dlaw_total.b .nil pass0 (pa_cons (pv 0) pa_nil)))
 (pss_one (ps_ret (pe_callTy call_tuple_of (by rfl) M.tuple (by decide +kernel) (pa_cons (pe_lc (own := [("part", 2)]) rfl c_law_over_sum.nd (pi_list (pv 0)) (blkOk_by (own := [("part", 2)]) (N := n_law_over_sum) (sc := defScope s_law_over_sum) (by decide +kernel)) (fun _ _ _ _ _ => (pg_name (i := 2) c_law_over_sum.nd rfl (.inl rfl))) (fun _ _ _ _ _ => pts_nil) (fun _ _ _ _ _ => (pe_call Dlaw_over.G (hr.mono (by first | decide | omega)) rfl Dlaw_over.g Dlaw_over.kp Dlaw_over.b .nil pass0 (pa_cons (pv 2) (pa_cons (pv 1) pa_nil))))) pa_nil))))), ?_⟩
    refine ⟨_, rfl, a, xs, qs, n, rfl, ha, hx, hs, by omega, fun u H1 s1 hu => ?_⟩
    have su : Bq.Sz (1 + qs.length * (n + 1)) (Bq.sumQ qs) := by
      have := sz_take hs qs.length (Nat.le_refl _)
      rwa [List.take_length] at this
    have xl := hx.1
    refine ⟨_, rfl, a, rfl, ⟨xs, s1.seq ha⟩, fun D nD => lc_rel (walk_list (K := K) (a := a) (xs := xs)) No (fun H' i y => ∃ p, qs[i]? = some p ∧ Dq (fun b => Old H b ∨ b = D) H' y (frD (p / Bq.sumQ qs)))
      (fun H H' i v k r => ?_) nD (fun _ z => z.elim) (by omega) (fun H' k' => (s1.trans (no_same k')).seq ha) ?_ ?_⟩
    · obtain ⟨p, e, h⟩ := r
      exact ⟨p, e, h.keep (k.mono fun b z => z.elim (fun z => z.elim) .inr)⟩
    · rintro i x H2 _ Q' hi k2 nD2 ⟨rfl, hx2⟩ q'
      have e : qs[i]? = some (qs[i]'(by omega)) := List.getElem?_eq_getElem (by omega)
      have s2 := no_same k2
      refine ⟨rfl, _, rfl, _, rfl, x, u, _, _, n, 1 + qs.length * (n + 1), rfl, (hx.2 i x _ hx2 e).same (s1.trans s2), hu.fr.same s2, hs _ (List.mem_of_getElem? e), su, by omega, h0, fun p hp => ?_⟩
      refine q' _ _ (Kp.new hp) ⟨_, e, fr_dq (fun z => ?_) upd_same⟩
      rcases z with z | z
      · exact z ((s1.trans s2).free hp)
      · rw [z] at hp
        exact nD2 hp
    · rintro H2 acc k2 eD hla ha2
      have s2 := no_same k2
      refine ⟨D, acc, rfl, .inl ⟨.of eD, fun t nt => q _ _ ((s1.trans s2).trans (same_new nt)) (.tup (fun z => z ((s1.trans s2).free nt)) upd_same ?_)⟩⟩
      have all : DqAll (fun b => Old H b ∨ b = D) H2 acc ((qs.map fun q => q / Bq.sumQ qs).map frD) := dqAll_of (by rw [List.length_map, List.length_map]; omega) fun i v e => by
        obtain ⟨p, e2, h⟩ := ha2 i v e
        exact ⟨_, by rw [List.getElem?_map, List.getElem?_map, e2]; rfl, h⟩
      exact (all.keep (Kp.new nt)).weak fun b z => .inl z
end
end Kx
/-! Part 10. Ears laid one after another: each place leads to each. Plain mathematics. -/
namespace Bw
def Lk (E : List (Nat × Nat)) (a b : Nat) : Prop := (a, b) ∈ E
theorem lk_app {E F : List (Nat × Nat)} {a b : Nat} (h : Reach (Lk E) a b) : Reach (Lk (E ++ F)) a b := h.mono fun _ _ e => List.mem_append_left _ e
structure Ears (n : Nat) (Kn L : List Nat) (E : List (Nat × Nat)) : Prop where
  nd : (Kn ++ L).Nodup
  len : Kn.length + L.length = n
  lt : ∀ x ∈ Kn ++ L, x < n
  elt : ∀ e ∈ E, e.1 < n ∧ e.2 < n
  con : ∀ a ∈ Kn, ∀ b ∈ Kn, Reach (Lk E) a b
  ne : Kn ≠ []
/-- within one ear: what it has come to, where it is -/
structure Ear (n : Nat) (Kn Fr L : List Nat) (E : List (Nat × Nat)) (cur : Nat) : Prop where
  nd : (Kn ++ (Fr ++ L)).Nodup
  len : Kn.length + (Fr.length + L.length) = n
  lt : ∀ x ∈ Kn ++ (Fr ++ L), x < n
  elt : ∀ e ∈ E, e.1 < n ∧ e.2 < n
  con : ∀ a ∈ Kn, ∀ b ∈ Kn, Reach (Lk E) a b
  fr : ∀ x ∈ Fr, (∃ k ∈ Kn, Reach (Lk E) k x) ∧ Reach (Lk E) x cur
  src : ∃ k ∈ Kn, Reach (Lk E) k cur
  clt : cur < n
theorem Ears.start {n : Nat} {Kn L : List Nat} {E : List (Nat × Nat)} (h : Ears n Kn L E) {c : Nat} (hc : c ∈ Kn) : Ear n Kn [] L E c :=
  ⟨h.nd, by have := h.len; simp; omega, h.lt, h.elt, h.con, fun x hx => by simp at hx, ⟨c, hc, .refl⟩, h.lt c (List.mem_append_left _ hc)⟩
theorem perm_erase : ∀ (L : List Nat) (i t : Nat), L[i]? = some t → List.Perm (t :: L.eraseIdx i) L
  | [], _, _, h => by simp at h
  | a :: L, 0, t, h => by
    have : a = t := by simpa using h
    rw [this]
    exact List.Perm.refl _
  | a :: L, i + 1, t, h => by
    have ih := perm_erase L i t (by simpa using h)
    exact (List.Perm.swap a t (L.eraseIdx i)).trans (ih.cons a)
theorem Ear.step {n : Nat} {Kn Fr L : List Nat} {E : List (Nat × Nat)} {cur i t : Nat} (h : Ear n Kn Fr L E cur) (e : L[i]? = some t) : Ear n Kn (Fr ++ [t]) (L.eraseIdx i) (E ++ [(cur, t)]) t := by
  obtain ⟨hi, et⟩ := List.getElem?_eq_some_iff.mp e
  have pm : List.Perm (t :: L.eraseIdx i) L := perm_erase L i t e
  have pm2 : List.Perm (Kn ++ ((Fr ++ [t]) ++ L.eraseIdx i)) (Kn ++ (Fr ++ L)) := by
    rw [List.append_assoc]
    exact (pm.append_left Fr).append_left Kn
  have htn : t < n := h.lt t (List.mem_append_right _ (List.mem_append_right _ (List.mem_of_getElem? e)))
  have one : Reach (Lk (E ++ [(cur, t)])) cur t := .one (List.mem_append_right _ (by simp))
  obtain ⟨k, hk, rk⟩ := h.src
  have kt : Reach (Lk (E ++ [(cur, t)])) k t := (lk_app rk).trans one
  refine ⟨pm2.nodup_iff.mpr h.nd, ?_, fun x hx => h.lt x (pm2.mem_iff.mp hx), fun e he => ?_, fun a ha b hb => lk_app (h.con a ha b hb), fun x hx => ?_, ⟨k, hk, kt⟩, htn⟩
  · have := pm2.length_eq
    simp only [List.length_append] at this ⊢
    have h2 := h.len
    omega
  · rcases List.mem_append.mp he with he | he
    · exact h.elt e he
    · have : e = (cur, t) := by simpa using he
      rw [this]
      exact ⟨h.clt, htn⟩
  · rcases List.mem_append.mp hx with hx | hx
    · obtain ⟨⟨k2, hk2, r2⟩, r3⟩ := h.fr x hx
      exact ⟨⟨k2, hk2, lk_app r2⟩, (lk_app r3).trans one⟩
    · have : x = t := by simpa using hx
      rw [this]
      exact ⟨⟨k, hk, kt⟩, .refl⟩
theorem Ear.close {n : Nat} {Kn Fr L : List Nat} {E : List (Nat × Nat)} {cur last : Nat} (h : Ear n Kn Fr L E cur) (hl : last ∈ Kn) : Ears n (Kn ++ Fr) L (E ++ [(cur, last)]) := by
  have one : Reach (Lk (E ++ [(cur, last)])) cur last := .one (List.mem_append_right _ (by simp))
  have to : ∀ a ∈ Kn ++ Fr, Reach (Lk (E ++ [(cur, last)])) a last := fun a ha => by
    rcases List.mem_append.mp ha with ha | ha
    · exact lk_app (h.con a ha last hl)
    · exact (lk_app (h.fr a ha).2).trans one
  have fro : ∀ b ∈ Kn ++ Fr, Reach (Lk (E ++ [(cur, last)])) last b := fun b hb => by
    rcases List.mem_append.mp hb with hb | hb
    · exact lk_app (h.con last hl b hb)
    · obtain ⟨k, hk, r⟩ := (h.fr b hb).1
      exact (lk_app (h.con last hl k hk)).trans (lk_app r)
  refine ⟨by rw [List.append_assoc]; exact h.nd, by have := h.len; simp only [List.length_append]; omega, by rw [List.append_assoc]; exact h.lt, fun e he => ?_, fun a ha b hb => (to a ha).trans (fro b hb), fun z => ?_⟩
  · rcases List.mem_append.mp he with he | he
    · exact h.elt e he
    · have : e = (cur, last) := by simpa using he
      rw [this]
      exact ⟨h.clt, h.lt last (List.mem_append_left _ hl)⟩
  · rw [List.append_eq_nil_iff] at z
    rw [z.1] at hl
    simp at hl
/-- all that is left is none: each place leads to each -/
theorem Ears.done {n : Nat} {Kn : List Nat} {E : List (Nat × Nat)} (h : Ears n Kn [] E) : (∀ e ∈ E, e.1 < n ∧ e.2 < n) ∧ ∀ a b, a < n → b < n → Reach (Lk E) a b := by
  have nd := h.nd
  rw [List.append_nil] at nd
  have hl := h.len
  have all := (nodup_len n Kn nd fun x hx => h.lt x (List.mem_append_left _ hx)).2 (by simpa using hl)
  exact ⟨h.elt, fun a b ha hb => h.con a (all a ha) b (all b hb)⟩
end Bw
/-! Part 11. Whole numbers in rows, each over its row's sum. Plain mathematics. -/
namespace Bw
open PySem
def rowQ (row : List Nat) : List Rat := row.map fun k => ((k : Nat) : Rat)
def overQ (row : List Nat) : List Rat := (rowQ row).map fun q => q / Bq.sumQ (rowQ row)
def walkM (M : List (List Nat)) : List (List Rat) := M.map overQ
theorem sum_nonneg : ∀ {qs : List Rat}, (∀ q ∈ qs, 0 ≤ q) → 0 ≤ Bq.sumQ qs
  | [], _ => by simp [Bq.sumQ]
  | q :: r, h => by
    have h1 := h q List.mem_cons_self
    have h2 := sum_nonneg (qs := r) fun x hx => h x (List.mem_cons_of_mem _ hx)
    rw [Bq.sumQ]
    grind
theorem sum_pos : ∀ {qs : List Rat}, (∀ q ∈ qs, 0 ≤ q) → (∃ q ∈ qs, 0 < q) → 0 < Bq.sumQ qs
  | [], _, h => by simp at h
  | q :: r, h, h2 => by
    have h1 := h q List.mem_cons_self
    have h3 := sum_nonneg (qs := r) fun x hx => h x (List.mem_cons_of_mem _ hx)
    rw [Bq.sumQ]
    obtain ⟨x, hx, h0⟩ := h2
    rcases List.mem_cons.mp hx with rfl | hx
    · grind
    · have := sum_pos (qs := r) (fun x hx => h x (List.mem_cons_of_mem _ hx)) ⟨x, hx, h0⟩
      grind
theorem sum_over (s : Rat) : ∀ qs : List Rat, Bq.sumQ (qs.map fun q => q / s) = Bq.sumQ qs / s
  | [] => by
    simp [Bq.sumQ]
    grind
  | q :: r => by
    rw [List.map_cons, Bq.sumQ, sum_over s r, Bq.sumQ]
    grind
theorem nat_nonneg (k : Nat) : (0 : Rat) ≤ ((k : Nat) : Rat) := by
  exact_mod_cast Nat.zero_le k
theorem nat_pos {k : Nat} (h : 0 < k) : (0 : Rat) < ((k : Nat) : Rat) := by
  exact_mod_cast h
theorem rowQ_nonneg {row : List Nat} : ∀ q ∈ rowQ row, (0 : Rat) ≤ q := fun q hq => by
  obtain ⟨k, _, rfl⟩ := List.mem_map.mp hq
  exact nat_nonneg k
theorem row_pos {row : List Nat} (h : ∃ k ∈ row, 0 < k) : 0 < Bq.sumQ (rowQ row) := by
  obtain ⟨k, hk, h0⟩ := h
  exact sum_pos rowQ_nonneg ⟨_, List.mem_map.mpr ⟨k, hk, rfl⟩, nat_pos h0⟩
theorem div_pos {a b : Rat} (ha : 0 < a) (hb : 0 < b) : 0 < a / b := by
  rw [Rat.div_def]
  exact Rat.mul_pos ha (Rat.inv_pos.mpr hb)
theorem div_nonneg {a b : Rat} (ha : 0 ≤ a) (hb : 0 < b) : 0 ≤ a / b := by
  rw [Rat.div_def]
  exact Rat.mul_nonneg ha (Rat.le_of_lt (Rat.inv_pos.mpr hb))
theorem nat_sz {n k : Nat} (h : k < 2 ^ n) (h1 : 1 ≤ n) : Bq.Sz n ((k : Nat) : Rat) := by
  refine ⟨?_, ?_⟩
  · rw [Rat.num_natCast]
    simpa using h
  · rw [Rat.den_natCast]
    exact Nat.one_lt_two_pow (by omega)
theorem nat_num (k : Nat) : ((k : Nat) : Rat).num = (k : Int) := Rat.num_natCast k
theorem nat_den (k : Nat) : ((k : Nat) : Rat).den = 1 := Rat.den_natCast k

/-- what is drawn is a walk -/
theorem walkM_tab {M : List (List Nat)} {n : Nat} (h1 : 1 ≤ n) (h6 : n ≤ 6) (hl : M.length = n) (hr : ∀ row ∈ M, row.length = n) (hp : ∀ row ∈ M, ∃ k ∈ row, 0 < k) : Tab (walkM M) := by
  have l : (walkM M).length = n := by
    unfold walkM
    rw [List.length_map, hl]
  refine ⟨by omega, by omega, fun r hr' => ?_, fun r hr' q hq => ?_⟩
  · obtain ⟨row, hm, rfl⟩ := List.mem_map.mp hr'
    unfold overQ rowQ
    rw [List.length_map, List.length_map, hr row hm, l]
  · obtain ⟨row, hm, rfl⟩ := List.mem_map.mp hr'
    obtain ⟨p, hp2, rfl⟩ := List.mem_map.mp hq
    exact div_nonneg (rowQ_nonneg p hp2) (row_pos (hp row hm))
theorem walkM_sum {M : List (List Nat)} (hp : ∀ row ∈ M, ∃ k ∈ row, 0 < k) : ∀ r ∈ walkM M, Bq.sumQ r = 1 := fun r hr' => by
  obtain ⟨row, hm, rfl⟩ := List.mem_map.mp hr'
  have := row_pos (hp row hm)
  unfold overQ
  rw [sum_over]
  grind
theorem walkM_ed {M : List (List Nat)} (hp : ∀ row ∈ M, ∃ k ∈ row, 0 < k) {a b : Nat} {row : List Nat} {k : Nat} (h1 : M[a]? = some row) (h2 : row[b]? = some k) (h3 : 0 < k) : Ed (walkM M) a b := by
  refine ⟨overQ row, ((k : Nat) : Rat) / Bq.sumQ (rowQ row), ?_, ?_, div_pos (nat_pos h3) (row_pos (hp row (List.mem_of_getElem? h1)))⟩
  · unfold walkM
    rw [List.getElem?_map, h1]
    rfl
  · unfold overQ rowQ
    rw [List.getElem?_map, List.getElem?_map, h2]
    rfl
theorem walkM_sz {M : List (List Nat)} {n : Nat} (h6 : n ≤ 6) (hr : ∀ row ∈ M, row.length = n) (hk : ∀ row ∈ M, ∀ k ∈ row, k < 2 ^ 20) (hp : ∀ row ∈ M, ∃ k ∈ row, 0 < k) : ∀ r ∈ walkM M, ∀ q ∈ r, Bq.Sz 160 q := fun r hr' q hq => by
  obtain ⟨row, hm, rfl⟩ := List.mem_map.mp hr'
  obtain ⟨p, hp2, rfl⟩ := List.mem_map.mp hq
  obtain ⟨k, hk2, rfl⟩ := List.mem_map.mp hp2
  have s1 : ∀ q ∈ rowQ row, Bq.Sz 20 q := fun q hq => by
    obtain ⟨k, hk3, rfl⟩ := List.mem_map.mp hq
    exact nat_sz (hk row hm k hk3) (by omega)
  have s2 : ∀ (qs : List Rat), (∀ q ∈ qs, Bq.Sz 20 q) → Bq.Sz (1 + qs.length * 21) (Bq.sumQ qs) := fun qs => by
    induction qs with
    | nil => exact fun _ => Bq.Sz.zero
    | cons q r ih =>
      intro h
      have h1 := (h q List.mem_cons_self).add (ih fun x hx => h x (List.mem_cons_of_mem _ hx))
      rw [Bq.sumQ]
      refine h1.mono ?_
      rw [List.length_cons, Nat.succ_mul]
      omega
  have h3 := (nat_sz (hk row hm k hk2) (by omega)).div (s2 _ s1) (Bq.num_pos.mpr (row_pos (hp row hm)))
  refine h3.mono ?_
  have hl : (rowQ row).length = n := by
    unfold rowQ
    rw [List.length_map, hr row hm]
  rw [hl]
  have : n * 21 ≤ 6 * 21 := Nat.mul_le_mul_right _ h6
  omega
end Bw
/-! Part 12. A tuple turned round; a tuple once. -/
namespace Bw
open PySem PySem.Spec PyProof.Rows L2
section
variable {prog : Program} {w : World} {A : Around} {E : Value → Shared → Prop} {s : Shared}
theorem slice_back {sl : Addr} {u : Tok} {n : Nat} {Q : Int × Int × Nat → Shared → Prop} (hs : s.heap.IsSliceOf sl .none .none (.int (-1) u)) (h : Q ((n : Int) - 1, -1, n) s) :
    wpAny (model prog w) A (Builtin.Slice.sliceApplied (.ref sl) (pure (n : Int))) Q E s := by
  obtain ⟨os, hos, hcs, hds⟩ := id hs
  unfold Builtin.Slice.sliceApplied Builtin.Slice.sliceFields
  refine wpAny_bind (wpAny_bind (wpAny_field hos hds (x := .none) rfl (wpAny_bind (wpAny_field hos hds (x := .none) rfl (wpAny_bind (wpAny_field hos hds (x := .int (-1) u) rfl (wpAny_pure ?_)))))))
  refine wpAny_bind (HT.slicePart_ (.int (-1) u) ?_)
  show wpAny _ _ (if ((-1 : Int) == 0) = true then _ else _) _ _ s
  rw [if_neg (by decide)]
  refine wpAny_bind (HT.slicePart_ .none (wpAny_bind (HT.slicePart_ .none (wpAny_bind (wpAny_pure ?_)))))
  show wpAny _ _ (match Builtin.Slice.sliceAdjust none none (-1) (n : Int) with | (lo, hi) => pure (lo, (-1 : Int), Builtin.Slice.slicePlaces lo hi (-1))) _ _ s
  have e1 : Builtin.Slice.sliceAdjust none none (-1) (n : Int) = ((n : Int) - 1, -1) := by
    unfold Builtin.Slice.sliceAdjust
    simp
  rw [e1]
  have e2 : Builtin.Slice.slicePlaces ((n : Int) - 1) (-1) (-1) = n := by
    unfold Builtin.Slice.slicePlaces
    rw [if_neg (by omega)]
    split
    · simp
    · simp
      omega
  dsimp only
  rw [e2]
  exact wpAny_pure h
theorem back_pick (xs : Array Value) : ((List.range xs.size).filterMap fun (m : Nat) => xs[(((xs.size : Nat) : Int) - 1 + (m : Int) * (-1)).toNat]?).toArray = xs.toList.reverse.toArray := by
  congr 1
  have e : (fun (m : Nat) => xs[(((xs.size : Nat) : Int) - 1 + (m : Int) * (-1)).toNat]?) = fun m => xs.toList[xs.size - 1 - m]? := by
    funext m
    rw [Array.getElem?_toList]
    congr 1
    omega
  rw [e]
  have key : ∀ (l : List Value) (k : Nat), k ≤ l.length → (List.range k).filterMap (fun m => l[l.length - 1 - m]?) = (l.drop (l.length - k)).reverse := fun l k => by
    induction k with
    | zero => intro _; simp
    | succ k ih =>
      intro h
      rw [List.range_succ, List.filterMap_append, ih (by omega)]
      have h2 : l.length - (k + 1) < l.length := by omega
      have h3 : l.drop (l.length - (k + 1)) = l[l.length - (k + 1)] :: l.drop (l.length - k) := by
        rw [List.drop_eq_getElem_cons h2]
        congr 2
        omega
      rw [h3, List.reverse_cons]
      have h4 : l.length - 1 - k = l.length - (k + 1) := by omega
      have h5 : List.filterMap (fun m => l[l.length - 1 - m]?) [k] = [l[l.length - (k + 1)]] := by
        rw [List.filterMap_cons, h4, List.getElem?_eq_getElem h2]
        rfl
      rw [h5]
  have := key xs.toList xs.size (by simp)
  rw [Array.length_toList] at this
  rw [this]
  simp
theorem item_back {t sl : Addr} {items : Array Value} {u : Tok} {Q : Value → Shared → Prop} (ht : IsTup s.heap t items) (hs : s.heap.IsSliceOf sl .none .none (.int (-1) u))
    (h : Q (.ref s.heap.objs.size) { s with heap := s.heap.push { cls := .type "tuple", data := .seq items.toList.reverse.toArray } }) (hz : items.size ≤ sizeLine) :
    wpAny (model prog w) A (getItem (.ref t) (.ref sl)) Q E s := by
  have hlen : sizeOk (.seq items.toList.reverse.toArray) := by
    show items.toList.reverse.toArray.size ≤ sizeLine
    rw [List.size_toArray, List.length_reverse, Array.length_toList]
    exact hz
  obtain ⟨os, hos, hcs, hds⟩ := id hs
  have hTs : s.TypeIs (.ref sl) "slice" := ⟨os, hos, hcs⟩
  unfold getItem
  try with_reducible refine wpAny_holding ?_
  first | refine wpAny_bind (wpAny_pure ?_) | skip
  refine wpAny_bind (wpAny_sequenceKey ht.typeIs (by decide) ?_)
  refine wpAny_bind (wpAny_callSpecial?_slot (name := Str.ofString "__getitem__") ht.typeIs PyProof.Rows.slot_tuple_getitem (wpAny_call_entry PyProof.Rows.slot_tuple_getitem ht.typeIs PyProof.Rows.entry_tuple_getitem ?_ (PyProof.Rows.args_tuple_getitem _ _)))
  show wpAny _ _ (Builtin.Tuple.tupleItemsOf (.ref t) >>= _) _ _ s
  refine wpAny_bind (PyProof.Rows.tupleItemsOf_ ht (wpAny_bind (wpAny_typeOf hTs ?_)))
  rw [if_pos (by decide)]
  refine wpAny_bind (slice_back hs ?_)
  have hno : ¬ ((((items.size : Nat) : Int) - 1 == 0 && (-1 : Int) == 1 && items.size == items.size) = true) := by simp
  show wpAny _ _ (if (((items.size : Nat) : Int) - 1 == 0 && (-1 : Int) == 1 && items.size == items.size) = true then _ else _) _ _ s
  rw [if_neg hno, back_pick]
  first
    | exact wpAny_bind (m := Builtin.Tuple.tupleExact _) (wpAny_newObj_type (wpAny_pure ⟨_, rfl, wpAny_pure h⟩) hlen)
    | exact wpAny_bind (m := Builtin.Tuple.tupleExact _) (wpAny_newObj_type (wpAny_bind (wpAny_pure (wpAny_pure ⟨_, rfl, wpAny_pure h⟩))) hlen)
    | exact wpAny_bind (wpAny_bind (m := Builtin.Tuple.tupleExact _) (wpAny_newObj_type (wpAny_pure (wpAny_pure ⟨_, rfl, wpAny_pure h⟩)) hlen))
    | exact wpAny_bind (wpAny_bind (m := Builtin.Tuple.tupleExact _) (wpAny_newObj_type (wpAny_pure ⟨_, rfl, wpAny_pure h⟩) hlen))
end

/-- t[::-1], t a tuple -/
def tRevT (K : PySem.W.Frag) (te : TE) : TE := fun σ H Q => te σ H fun x H1 => ∃ a xs, x = .ref a ∧ SqT K H1 a xs ∧ ∀ p, H1 p = none → Q (.ref p) (upd H1 p (.tup xs.reverse))
section
variable {X : Cx}
theorem pe_revT {e : Expr} {te : TE} {k : Nat} {p1 p2 p3 pos : Pos} (he : PE X e te) : PE X (.Subscript e (.Slice none none (some (.UnaryOp .USub (.Constant (.int 1) k p1) p2)) p3) pos) (tRevT X.K te) := by
  refine ⟨fun pins s σ H Q I h => ?_⟩
  refine Subscript_ (thn (he.run pins s σ H _ I h) fun v s1 ⟨x, H1, I1, r1, q1⟩ => ?_)
  obtain ⟨a, xs, ex, hx, q⟩ := q1
  subst ex
  obtain rfl : v = Value.ref a := r1
  have hst : PO X (some (.UnaryOp .USub (.Constant (.int 1) k p1) p2)) (tPart (tUn (rU fun i => .int (-i)) (tC (.int 1)))) := po_some (pe_un un_neg pe_int)
  refine wpAny_Slice (thn (po_none.run pins s1 σ H1 (fun o H2 => o = none ∧ H2 = H1) I1 ⟨rfl, rfl⟩) fun vl s2 ⟨lo, H2, I2, pl, el, e2⟩ => ?_)
  subst el e2
  refine thn (po_none.run pins s2 σ H2 (fun o H3 => o = none ∧ H3 = H2) I2 ⟨rfl, rfl⟩) fun vu s3 ⟨hi, H3, I3, pu, eu, e3⟩ => ?_
  subst eu e3
  refine thn (hst.run pins s3 σ H3 (fun o H4 => o = some (-1) ∧ H4 = H3) I3 ⟨1, rfl, -1, rfl, rfl, rfl⟩) fun vs s4 ⟨o, H4, I4, ps, eo, e4⟩ => ?_
  subst eo e4
  cases pl
  cases pu
  obtain ⟨u, rfl⟩ : ∃ u, vs = Value.int (-1) u := by
    cases ps
    exact ⟨_, rfl⟩
  have I5 : Inv X pins σ H4 { s4 with heap := s4.heap.push { cls := .type "slice", data := .fields #[.none, .none, .int (-1) u] } } := I4.kept (t' := s4.toks) fun b ob q => Heap.get?_push_of_some _ q
  obtain ⟨its, r, ht, hz⟩ := I5.tuple hx
  have hlen := r.length
  show wpAny (model X.prog X.w) X.A (subscriptTail e (.Slice none none (some (.UnaryOp .USub (.Constant (.int 1) k p1) p2)) p3) (.ref a) (.ref s4.heap.objs.size)) (EP X pins σ Q) X.xe { s4 with heap := s4.heap.push { cls := .type "slice", data := .fields #[.none, .none, .int (-1) u] } }
  refine tail_any (ops := [.ref a, .ref s4.heap.objs.size]) ht.typeIs PyProof.Rows.slot_tuple_getitem.lookup ?_ (by with_unfolding_all rfl)
  refine item_back ht (Heap.IsSliceOf.new _ .none .none (.int (-1) u)) ?_ (by rw [List.size_toArray]; omega)
  refine ⟨.ref _, _, I5.laid (t' := s4.toks) (o := .tup xs.reverse) (fun b ob q => Heap.get?_push_of_some _ q) (Nat.le_refl _) ?_, rfl, q _ (I5.hok.fresh (Nat.le_refl _))⟩
  exact ⟨by rw [List.length_reverse]; exact hz, _, r.reverse, IsTup.new _ _⟩

/-! ### t * k, k from 1 on -/
theorem mul_once (l : Addr) (items : Array Value) (n : Nat) (sl : Array (Option Value)) (dd : Option Addr) (u : Tok) :
    Meets (Builtin.«tuple.__mul__» ⟨[.ref l, .int 1 u], []⟩) (fun _ R s => s.heap.get? l = some { cls := .type "tuple", dict := dd, data := .seq items n, slots := sl } ∧ R (.ok (.ret (.ref l))) s) :=
  .of_wp fun prog w A R s h => by
    obtain ⟨hp, g, d, tk, os⟩ := s
    obtain ⟨hl, h⟩ := h
    have f1 := AutoSeq1.idx_int
    wp_walk using wpAny_loadPart' hl
    exact ⟨_, rfl, h⟩
def rRepA (K : PySem.W.Frag) : R2 := fun x y H Q => ∃ l k xs, x = .ref l ∧ y = .int k ∧ SqT K H l xs ∧ xs ≠ [] ∧ 1 ≤ k ∧ k ≤ 1000 ∧ xs.length ≤ 1000 ∧ (k = 1 → Q (.ref l) H) ∧ (2 ≤ k → ∀ p, H p = none → Q (.ref p) (upd H p (.tup (List.replicate k.toNat xs).flatten)))
theorem op_repA : OpR X (binaryOp .Mult) (rRepA X.K) := by
  intro pins s σ H x y v u Q I rx ry h
  obtain ⟨l, k, xs, rfl, rfl, hT, hne, h1, h2, hz, q1, q2⟩ := h
  by_cases hk : k = 1
  · subst hk
    obtain rfl : v = Value.ref l := rx
    obtain ⟨t, rfl⟩ := ry
    obtain ⟨its, r, ⟨⟨cls, dd, data, sl⟩, ho, hc, n, hd⟩, hs⟩ := I.tuple hT
    simp only at hc hd
    subst hc hd
    exact wpAny_binaryOp_repeat_ref (T := "tuple") (U := "int") (by decide) ⟨_, ho, rfl⟩ (fun s' => typeIs_int s' 1 t) noFill_tuple_mul F.fills_int_mul F.slot_int_rmul repeat_tuple F.slot_int_index.lookup
      (call_meets F.slot_int_rmul (typeIs_int s 1 t) F.entry_int_rmul (F.args_int_rmul_2 _ _) (int_rmul_tuple 1 t l its.toArray n dd sl)
        ⟨ho, rfl, ⟨_, ho, rfl⟩, call_meets F.slot_tuple_mul ⟨_, ho, rfl⟩ F.entry_tuple_mul (F.args_tuple_mul_2 _ _) (mul_once l its.toArray n sl dd t) ⟨ho, ⟨.ref l, H, I, rfl, q1 rfl⟩⟩⟩)
  · exact op_repT pins s σ H _ _ v u Q I rx ry ⟨l, k, xs, rfl, rfl, hT, hne, by omega, h2, hz, q2 (by omega)⟩
theorem op_repAK {K : PySem.W.Frag} (h : X.K = K) : OpR X (binaryOp .Mult) (rRepA K) := by
  subst h
  exact op_repA
end
end Bw
/-! Part 12. Places left out one by one from a square of whole numbers; the shares that come of it. Plain mathematics. -/
namespace Bw
/-- f 0 + .. + f (n - 1) -/
def sN : Nat → (Nat → Nat) → Nat
  | 0, _ => 0
  | n + 1, f => sN n f + f n
theorem sN_congr {f g : Nat → Nat} : ∀ {n : Nat}, (∀ i, i < n → f i = g i) → sN n f = sN n g
  | 0, _ => rfl
  | n + 1, h => by
    rw [sN, sN, sN_congr fun i hi => h i (by omega), h n (by omega)]
theorem sN_lin (f h : Nat → Nat) (g c : Nat) : ∀ n, sN n (fun j => f j * g + c * h j) = sN n f * g + c * sN n h
  | 0 => by simp [sN]
  | n + 1 => by
    simp only [sN]
    rw [sN_lin f h g c n, Nat.add_mul, Nat.mul_add]
    omega
theorem sN_mul (f : Nat → Nat) (g : Nat) : ∀ n, sN n (fun j => f j * g) = sN n f * g
  | 0 => by simp [sN]
  | n + 1 => by
    simp only [sN]
    rw [sN_mul f g n, Nat.add_mul]
theorem sN_add (f h : Nat → Nat) : ∀ n, sN n (fun j => f j + h j) = sN n f + sN n h
  | 0 => by simp [sN]
  | n + 1 => by
    simp only [sN]
    rw [sN_add f h n]
    omega
theorem sN_pos {f : Nat → Nat} : ∀ {n i : Nat}, i < n → 0 < f i → 0 < sN n f
  | 0, i, h, _ => by omega
  | n + 1, i, h, h0 => by
    rw [sN]
    by_cases c : i = n
    · subst c
      omega
    · have := sN_pos (f := f) (n := n) (by omega) h0
      omega
theorem sN_lt {f : Nat → Nat} {b : Nat} : ∀ {n : Nat}, (∀ i, i < n → f i < b) → 0 < b → sN n f ≤ n * b
  | 0, _, _ => by simp [sN]
  | n + 1, h, h0 => by
    rw [sN, Nat.succ_mul]
    have h1 := sN_lt (f := f) (n := n) (fun i hi => h i (by omega)) h0
    have h2 := h n (by omega)
    omega
/-- a step from x to y, k places -/
def EdN (k : Nat) (M : Nat → Nat → Nat) (x y : Nat) : Prop := x < k ∧ y < k ∧ 0 < M x y
def StrN (k : Nat) (M : Nat → Nat → Nat) : Prop := ∀ a b, a < k → b < k → Reach (EdN k M) a b
theorem reach_first {E : Nat → Nat → Prop} {a b : Nat} (h : Reach E a b) (ne : a ≠ b) : ∃ c, c ≠ a ∧ E a c := by
  induction h with
  | refl => exact absurd rfl ne
  | step h e ih =>
    rename_i b c
    by_cases z : a = b
    · subst z
      exact ⟨c, Ne.symm ne, e⟩
    · exact ih z
theorem reach_last {E : Nat → Nat → Prop} {a b : Nat} (h : Reach E a b) (ne : a ≠ b) : ∃ c, c ≠ b ∧ E c b := by
  induction h with
  | refl => exact absurd rfl ne
  | step h e ih =>
    rename_i x c
    by_cases z : x = c
    · subst z
      exact ih ne
    · exact ⟨x, z, e⟩
/-- what goes out of the last place, l, to those ahead -/
abbrev gN (M : Nat → Nat → Nat) (l : Nat) : Nat := sN l (M l)
/-- the last place, l, left out -/
def el (M : Nat → Nat → Nat) (l : Nat) : Nat → Nat → Nat := fun i j => M i j * gN M l + M i l * M l j
theorem g_pos {M : Nat → Nat → Nat} {l : Nat} (h : StrN (l + 1) M) (hl : 1 ≤ l) : 0 < gN M l := by
  obtain ⟨c, hc, _, c2, c3⟩ := reach_first (h l 0 (by omega) (by omega)) (by omega)
  exact sN_pos (i := c) (by omega) c3
theorem in_pos {M : Nat → Nat → Nat} {l : Nat} (h : StrN (l + 1) M) (hl : 1 ≤ l) : ∃ i, i < l ∧ 0 < M i l := by
  obtain ⟨c, hc, c1, _, c3⟩ := reach_last (h 0 l (by omega) (by omega)) (by omega)
  exact ⟨c, by omega, c3⟩
theorem out_pos {M : Nat → Nat → Nat} {k i : Nat} (h : StrN k M) (hk : 2 ≤ k) (hi : i < k) : 0 < sN k (M i) := by
  by_cases z : i = 0
  · obtain ⟨c, hc, _, c2, c3⟩ := reach_first (h i 1 hi (by omega)) (by omega)
    exact sN_pos c2 c3
  · obtain ⟨c, hc, _, c2, c3⟩ := reach_first (h i 0 hi (by omega)) (by omega)
    exact sN_pos c2 c3
theorem el_str {M : Nat → Nat → Nat} {l : Nat} (h : StrN (l + 1) M) (hl : 1 ≤ l) : StrN l (el M l) := by
  have g0 := g_pos h hl
  have big : ∀ {x y}, 0 < M x y → 0 < el M l x y := fun {x y} z => by
    have := Nat.mul_pos z g0
    unfold el
    omega
  have via : ∀ {x y}, 0 < M x l → 0 < M l y → 0 < el M l x y := fun {x y} z z2 => by
    have := Nat.mul_pos z z2
    unfold el
    omega
  intro a b ha hb
  have key : ∀ y, Reach (EdN (l + 1) M) a y → (y < l → Reach (EdN l (el M l)) a y) ∧ (y = l → ∃ x, x < l ∧ Reach (EdN l (el M l)) a x ∧ 0 < M x l) := fun y r => by
    induction r with
    | refl => exact ⟨fun _ => .refl, fun z => by omega⟩
    | step r e ih =>
      rename_i y z
      obtain ⟨e1, e2, e3⟩ := e
      constructor
      · intro hz
        by_cases hy : y < l
        · exact (ih.1 hy).step ⟨hy, hz, big e3⟩
        · have hy2 : y = l := by omega
          obtain ⟨x, hx, rx, mx⟩ := ih.2 hy2
          rw [hy2] at e3
          exact rx.step ⟨hx, hz, via mx e3⟩
      · intro hz
        by_cases hy : y < l
        · rw [hz] at e3
          exact ⟨y, hy, ih.1 hy, e3⟩
        · exact ih.2 (by omega)
  exact (key b (h a b (by omega) (by omega))).1 hb
theorem el_sum (M : Nat → Nat → Nat) (l i : Nat) : sN l (el M l i) = sN (l + 1) (M i) * gN M l := by
  have h := sN_lin (M i) (M l) (gN M l) (M i l) l
  show sN l (fun j => M i j * gN M l + M i l * M l j) = _
  rw [h, sN, Nat.add_mul]
theorem el_lt {M : Nat → Nat → Nat} {l b : Nat} (hl : l ≤ 5) (h : ∀ i j, i ≤ l → j ≤ l → M i j < 2 ^ b) : ∀ i j, i < l → j < l → el M l i j < 2 ^ (2 * b + 4) := by
  intro i j hi hj
  have p0 : 0 < 2 ^ b := Nat.pow_pos (by omega)
  have hg : gN M l ≤ 5 * 2 ^ b := Nat.le_trans (sN_lt (fun k hk => h l k (by omega) (by omega)) p0) (Nat.mul_le_mul_right _ hl)
  have h1 := h i j (by omega) (by omega)
  have h2 := h i l (by omega) (by omega)
  have h3 := h l j (by omega) (by omega)
  have e : 2 ^ (2 * b + 4) = 16 * (2 ^ b * 2 ^ b) := by
    rw [← Nat.pow_add, Nat.pow_add, Nat.mul_comm, show b + b = 2 * b by omega]
  rw [e]
  have m1 : M i j * gN M l ≤ 2 ^ b * (5 * 2 ^ b) := Nat.mul_le_mul (by omega) hg
  have m2 : M i l * M l j ≤ 2 ^ b * 2 ^ b := Nat.mul_le_mul (by omega) (by omega)
  have m3 : 2 ^ b * (5 * 2 ^ b) = 5 * (2 ^ b * 2 ^ b) := by rw [Nat.mul_left_comm]
  have p2 : 0 < 2 ^ b * 2 ^ b := Nat.mul_pos p0 p0
  unfold el
  omega
/-- numbers by which what comes is what goes -/
def sol : Nat → (Nat → Nat → Nat) → Nat → Nat
  | 0, _ => fun _ => 1
  | 1, _ => fun _ => 1
  | l + 2, M => fun i => if i < l + 1 then sol (l + 1) (el M (l + 1)) i * gN M (l + 1) else sN (l + 1) fun k => sol (l + 1) (el M (l + 1)) k * M k (l + 1)
theorem sol_lt {l i : Nat} {M : Nat → Nat → Nat} (h : 1 ≤ l) (hi : i < l) : sol (l + 1) M i = sol l (el M l) i * gN M l := by
  obtain ⟨k, rfl⟩ : ∃ k, l = k + 1 := ⟨l - 1, by omega⟩
  rw [sol]
  exact if_pos hi
theorem sol_last {l : Nat} {M : Nat → Nat → Nat} (h : 1 ≤ l) : sol (l + 1) M l = sN l fun k => sol l (el M l) k * M k l := by
  obtain ⟨k, rfl⟩ : ∃ k, l = k + 1 := ⟨l - 1, by omega⟩
  rw [sol]
  exact if_neg (by omega)
theorem sol_pos : ∀ {k : Nat} {M : Nat → Nat → Nat}, StrN k M → ∀ i, i < k → 0 < sol k M i
  | 0, _, _, i, h => by omega
  | 1, _, _, i, h => by
    rw [sol]
    exact Nat.one_pos
  | l + 2, M, h, i, hi => by
    have h2 := el_str h (by omega)
    have ih := sol_pos h2
    by_cases c : i < l + 1
    · rw [sol_lt (by omega) c]
      exact Nat.mul_pos (ih i c) (g_pos h (by omega))
    · have e : i = l + 1 := by omega
      subst e
      rw [sol_last (by omega)]
      obtain ⟨x, hx, h3⟩ := in_pos h (by omega)
      exact sN_pos hx (Nat.mul_pos (ih x hx) h3)
/-- what comes to j is what goes from it -/
theorem sol_bal : ∀ {k : Nat} (M : Nat → Nat → Nat), 1 ≤ k → ∀ j, j < k → sN k (fun i => sol k M i * M i j) = sol k M j * sN k (M j)
  | 0, _, h, _, _ => by omega
  | 1, M, _, j, hj => by
    have : j = 0 := by omega
    subst this
    simp [sN, sol]
  | l + 2, M, _, j, hj => by
    have ih := sol_bal (k := l + 1) (el M (l + 1)) (by omega)
    have e0 : sN (l + 1) (fun i => sol (l + 2) M i * M i j) = sN (l + 1) (fun i => sol (l + 1) (el M (l + 1)) i * M i j) * gN M (l + 1) := by
      rw [← sN_mul]
      refine sN_congr fun i hi => ?_
      rw [sol_lt (l := l + 1) (by omega) hi, Nat.mul_right_comm]
    rw [sN, e0, sol_last (l := l + 1) (by omega)]
    by_cases c : j < l + 1
    · have h1 := ih j c
      rw [sol_lt (l := l + 1) (by omega) c, el_sum] at *
      have e1 : sN (l + 1) (fun i => sol (l + 1) (el M (l + 1)) i * el M (l + 1) i j) = sN (l + 1) (fun i => sol (l + 1) (el M (l + 1)) i * M i j) * gN M (l + 1) + sN (l + 1) (fun i => sol (l + 1) (el M (l + 1)) i * M i (l + 1)) * M (l + 1) j := by
        rw [← sN_mul, ← sN_mul, ← sN_add]
        refine sN_congr fun i hi => ?_
        show _ * (M i j * gN M (l + 1) + M i (l + 1) * M (l + 1) j) = _
        rw [Nat.mul_add, Nat.mul_assoc, Nat.mul_assoc]
      rw [← e1, h1]
      rw [Nat.mul_assoc, Nat.mul_comm (gN M (l + 1))]
    · have e : j = l + 1 := by omega
      subst e
      rw [show sN (l + 2) (M (l + 1)) = gN M (l + 1) + M (l + 1) (l + 1) from rfl, Nat.mul_add, sol_last (l := l + 1) (by omega)]
/-- after i places are left out of n -/
def stg (n : Nat) (M : Nat → Nat → Nat) : Nat → Nat → Nat → Nat
  | 0 => M
  | i + 1 => el (stg n M i) (n - 1 - i)
theorem stg_str {n : Nat} {M : Nat → Nat → Nat} (h : StrN n M) : ∀ i, i < n → StrN (n - i) (stg n M i)
  | 0, _ => h
  | i + 1, hi => by
    have ih := stg_str h i (by omega)
    have e : n - i = (n - 1 - i) + 1 := by omega
    rw [e] at ih
    have h2 := el_str ih (by omega)
    have e2 : n - (i + 1) = n - 1 - i := by omega
    rw [e2]
    exact h2
def bitN (b : Nat) : Nat → Nat
  | 0 => b
  | i + 1 => 2 * bitN b i + 4
theorem stg_lt {n b : Nat} {M : Nat → Nat → Nat} (hn : n ≤ 6) (h : ∀ i j, i < n → j < n → M i j < 2 ^ b) : ∀ k, k < n → ∀ i j, i < n - k → j < n - k → stg n M k i j < 2 ^ bitN b k
  | 0, _ => h
  | k + 1, hk => by
    have ih := stg_lt hn h k (by omega)
    intro i j hi hj
    exact el_lt (l := n - 1 - k) (by omega) (fun i j hi hj => ih i j (by omega) (by omega)) i j (by omega) (by omega)
/-- what each place weighs, times one number: the same at each stage -/
def pN (n : Nat) (M : Nat → Nat → Nat) (j : Nat) : Nat := sol n M j * sN n (M j)
theorem pN_el {l : Nat} {M : Nat → Nat → Nat} (h : 1 ≤ l) {j : Nat} (hj : j < l) : pN l (el M l) j = pN (l + 1) M j := by
  unfold pN
  rw [el_sum, sol_lt h hj, Nat.mul_assoc, Nat.mul_comm (gN M l)]
theorem pN_stg {n : Nat} {M : Nat → Nat → Nat} : ∀ i, i < n → ∀ j, j < n - i → pN (n - i) (stg n M i) j = pN n M j
  | 0, _, _, _ => rfl
  | i + 1, hi, j, hj => by
    have ih := pN_stg (n := n) (M := M) i (by omega) j (by omega)
    have e : n - i = (n - 1 - i) + 1 := by omega
    have e2 : n - (i + 1) = n - 1 - i := by omega
    rw [e] at ih
    rw [e2]
    show pN (n - 1 - i) (el (stg n M i) (n - 1 - i)) j = _
    rw [pN_el (by omega) (by omega), ih]
/-! ### as fractions -/
def fQ (k : Nat) : Rat := ((k : Nat) : Rat)
theorem fQ_mul (a b : Nat) : fQ (a * b) = fQ a * fQ b := by
  unfold fQ
  exact Rat.natCast_mul a b
theorem fQ_add (a b : Nat) : fQ (a + b) = fQ a + fQ b := by
  unfold fQ
  exact Rat.natCast_add a b
theorem fQ_pos {a : Nat} (h : 0 < a) : 0 < fQ a := by
  unfold fQ
  exact_mod_cast h
theorem fQ_ne {a : Nat} (h : 0 < a) : fQ a ≠ 0 := by
  have := fQ_pos h
  grind
/-- the sum of a drawn row -/
theorem sumQ_app : ∀ (l m : List Rat), Bq.sumQ (l ++ m) = Bq.sumQ l + Bq.sumQ m
  | [], m => by
    rw [List.nil_append, Bq.sumQ]
    grind
  | a :: l, m => by
    rw [List.cons_append, Bq.sumQ, sumQ_app l m, Bq.sumQ]
    grind
theorem sumQ_div (f : Nat → Nat) (c : Rat) : ∀ n, Bq.sumQ ((List.range n).map fun j => fQ (f j) / c) = fQ (sN n f) / c
  | 0 => by
    simp [Bq.sumQ, sN, fQ]
    grind
  | n + 1 => by
    rw [List.range_succ, List.map_append, sumQ_app, sumQ_div f c n, sN, fQ_add]
    simp only [List.map_cons, List.map_nil, Bq.sumQ]
    grind
/-- the chance from i to j of a stage of k places -/
def chQ (k : Nat) (M : Nat → Nat → Nat) (i j : Nat) : Rat := fQ (M i j) / fQ (sN k (M i))
/-- what is put in the last column when the last place, l, is left out -/
def bkQ (l : Nat) (M : Nat → Nat → Nat) (i : Nat) : Rat := chQ (l + 1) M i l / (fQ (gN M l) / fQ (sN (l + 1) (M l)))
theorem goes_eq (l : Nat) (M : Nat → Nat → Nat) : Bq.sumQ ((List.range l).map fun j => chQ (l + 1) M l j) = fQ (gN M l) / fQ (sN (l + 1) (M l)) := sumQ_div (M l) _ l
theorem step_eq {l i j : Nat} {M : Nat → Nat → Nat} (h : StrN (l + 1) M) (hl : 1 ≤ l) (hi : i < l) : chQ (l + 1) M i j + bkQ l M i * chQ (l + 1) M l j = chQ l (el M l) i j := by
  have g0 := fQ_ne (g_pos h hl)
  have r1 := fQ_ne (out_pos h (by omega) (show i < l + 1 by omega))
  have r2 := fQ_ne (out_pos h (by omega) (show l < l + 1 by omega))
  unfold bkQ chQ
  rw [el_sum]
  unfold el
  rw [fQ_add, fQ_mul, fQ_mul, fQ_mul]
  generalize fQ (gN M l) = g at *
  generalize fQ (sN (l + 1) (M i)) = r at *
  generalize fQ (sN (l + 1) (M l)) = t at *
  generalize fQ (M i j) = a
  generalize fQ (M i l) = b
  generalize fQ (M l j) = c
  grind
theorem found_eq {l : Nat} {M : Nat → Nat → Nat} (h : StrN (l + 1) M) (hl : 1 ≤ l) (c : Rat) : Bq.sumQ ((List.range l).map fun i => fQ (pN (l + 1) M i) / c * bkQ l M i) = fQ (pN (l + 1) M l) / c := by
  have g0 := fQ_ne (g_pos h hl)
  have r2 := fQ_ne (out_pos h (by omega) (show l < l + 1 by omega))
  have e : ∀ i, i < l → fQ (pN (l + 1) M i) / c * bkQ l M i = fQ (sol l (el M l) i * M i l * sN (l + 1) (M l)) / c := fun i hi => by
    have r1 := fQ_ne (out_pos h (by omega) (show i < l + 1 by omega))
    unfold pN bkQ chQ
    rw [sol_lt hl hi]
    simp only [fQ_mul]
    generalize fQ (gN M l) = g at *
    generalize fQ (sN (l + 1) (M i)) = r at *
    generalize fQ (sN (l + 1) (M l)) = t at *
    grind
  have e2 : ((List.range l).map fun i => fQ (pN (l + 1) M i) / c * bkQ l M i) = (List.range l).map fun i => fQ (sol l (el M l) i * M i l * sN (l + 1) (M l)) / c := List.map_congr_left fun i hi => e i (List.mem_range.mp hi)
  rw [e2, sumQ_div (fun i => sol l (el M l) i * M i l * sN (l + 1) (M l)) c l, sN_mul, pN, sol_last hl]
end Bw
set_option exponentiation.threshold 4000
namespace Bw
/-! ### rows drawn, as a square -/
def mf (M : List (List Nat)) (i j : Nat) : Nat := (M.getD i []).getD j 0
theorem row_range {row : List Nat} {n : Nat} (h : row.length = n) : row = (List.range n).map fun j => row.getD j 0 := by
  refine List.ext_getElem (by simp [h]) fun i h1 h2 => ?_
  rw [List.getElem_map, List.getElem_range, List.getD_eq_getElem?_getD, List.getElem?_eq_getElem h1]
  rfl
theorem sumQ_fQ (f : Nat → Nat) : ∀ n, Bq.sumQ ((List.range n).map fun j => fQ (f j)) = fQ (sN n f) := fun n => by
  have h := sumQ_div f 1 n
  have e : ((List.range n).map fun j => fQ (f j) / 1) = (List.range n).map fun j => fQ (f j) := List.map_congr_left fun i _ => by grind
  rw [e] at h
  rw [h]
  grind
theorem overQ_eq {row : List Nat} {n : Nat} (h : row.length = n) : overQ row = (List.range n).map fun j => fQ (row.getD j 0) / fQ (sN n fun j => row.getD j 0) := by
  have e : rowQ row = (List.range n).map fun j => fQ (row.getD j 0) := by
    have e1 := congrArg (List.map fun k => ((k : Nat) : Rat)) (row_range h)
    rw [List.map_map] at e1
    exact e1
  unfold overQ
  rw [e, List.map_map, sumQ_fQ]
  rfl
/-- a walk drawn from a square of numbers -/
structure Wk (n : Nat) (M : List (List Nat)) : Prop where
  n1 : 1 ≤ n
  n6 : n ≤ 6
  l : M.length = n
  r : ∀ row ∈ M, row.length = n
  k : ∀ i j, i < n → j < n → mf M i j < 2 ^ 20
  st : StrN n (mf M)
  p : ∀ i, i < n → 0 < sN n (mf M i)
theorem mf_row {M : List (List Nat)} {i : Nat} {row : List Nat} (h : M[i]? = some row) : mf M i = fun j => row.getD j 0 := by
  funext j
  have e : M.getD i [] = row := by
    rw [List.getD_eq_getElem?_getD, h]
    rfl
  show (M.getD i []).getD j 0 = _
  rw [e]
theorem Wk.at {n : Nat} {M : List (List Nat)} (h : Wk n M) {i : Nat} (hi : i < n) : ∃ row, M[i]? = some row ∧ row.length = n := by
  have hl := h.l
  have e : M[i]? = some (M[i]'(by omega)) := List.getElem?_eq_getElem (by omega)
  exact ⟨_, e, h.r _ (List.mem_of_getElem? e)⟩
theorem Wk.row {n : Nat} {M : List (List Nat)} (h : Wk n M) {i : Nat} (hi : i < n) : (walkM M)[i]? = some ((List.range n).map fun j => chQ n (mf M) i j) := by
  obtain ⟨row, e, hl⟩ := h.at hi
  unfold walkM
  rw [List.getElem?_map, e]
  show some (overQ row) = _
  rw [overQ_eq hl]
  unfold chQ
  rw [mf_row e]
theorem Wk.len {n : Nat} {M : List (List Nat)} (h : Wk n M) : (walkM M).length = n := by
  unfold walkM
  rw [List.length_map, h.l]
/-! ### sizes -/
theorem fQ_over {a b : Nat} : fQ a / fQ b = Rat.divInt a b := by
  unfold fQ
  rw [Rat.divInt_eq_div]
  rfl
theorem fQ_sz {a b n : Nat} (ha : a < 2 ^ n) (hb : b < 2 ^ n) (h : 0 < b) : Bq.Sz n (fQ a / fQ b) := by
  rw [fQ_over]
  exact Bq.sz_div (by omega) (by simpa using ha) (by simpa using hb)
theorem pow_le {m n : Nat} (h : m ≤ n) : 2 ^ m ≤ 2 ^ n := Nat.pow_le_pow_right (by decide) h
theorem sN_bits {f : Nat → Nat} {n b : Nat} (hn : n ≤ 6) (h : ∀ i, i < n → f i < 2 ^ b) : sN n f < 2 ^ (b + 3) := by
  have p0 : 0 < 2 ^ b := Nat.pow_pos (by omega)
  have h1 := sN_lt h p0
  have h2 : n * 2 ^ b ≤ 6 * 2 ^ b := Nat.mul_le_mul_right _ hn
  have e : 2 ^ (b + 3) = 2 ^ b * 8 := by rw [Nat.pow_add]
  rw [e]
  omega
theorem bit_le {n k : Nat} (hn : n ≤ 6) (hk : k + 2 ≤ n) : bitN 20 k ≤ 380 := by
  match k, hk with
  | 0, _ => decide
  | 1, _ => decide
  | 2, _ => decide
  | 3, _ => decide
  | 4, _ => decide
  | k + 5, h => omega
theorem mul_bits {a b m n : Nat} (ha : a < 2 ^ m) (hb : b < 2 ^ n) : a * b < 2 ^ (m + n) := by
  rw [Nat.pow_add]
  exact Nat.mul_lt_mul'' ha hb
/-- the bits of the numbers by which what comes is what goes -/
def solB : Nat → Nat → Nat
  | 0, _ => 1
  | 1, _ => 1
  | l + 2, b => solB (l + 1) (2 * b + 4) + b + 3
theorem sol_lt2 : ∀ {k : Nat} {M : Nat → Nat → Nat} {b : Nat}, k ≤ 6 → (∀ i j, i < k → j < k → M i j < 2 ^ b) → ∀ i, sol k M i < 2 ^ solB k b
  | 0, _, _, _, _, _ => by simp [sol, solB]
  | 1, _, _, _, _, _ => by simp [sol, solB]
  | l + 2, M, b, hk, h, i => by
    have ih := sol_lt2 (k := l + 1) (M := el M (l + 1)) (b := 2 * b + 4) (by omega) (el_lt (by omega) fun i j hi hj => h i j (by omega) (by omega))
    have hg : gN M (l + 1) < 2 ^ (b + 3) := sN_bits (by omega) fun j hj => h _ _ (by omega) (by omega)
    rw [sol, solB]
    show (if i < l + 1 then _ else _) < _
    split
    · rw [Nat.add_assoc]
      exact mul_bits (ih i) hg
    · rw [show solB (l + 1) (2 * b + 4) + b + 3 = (solB (l + 1) (2 * b + 4) + b) + 3 by omega]
      exact sN_bits (by omega) fun k hk => mul_bits (ih k) (h _ _ (by omega) (by omega))
theorem solB_le {n : Nat} (hn : n ≤ 6) : solB n 20 ≤ 740 := by
  match n, hn with
  | 0, _ => decide
  | 1, _ => decide
  | 2, _ => decide
  | 3, _ => decide
  | 4, _ => decide
  | 5, _ => decide
  | 6, _ => decide
  | n + 7, h => omega
theorem Wk.sol_lt {n : Nat} {M : List (List Nat)} (h : Wk n M) (i : Nat) : sol n (mf M) i < 2 ^ 740 := Nat.lt_of_lt_of_le (sol_lt2 h.n6 h.k i) (pow_le (solB_le h.n6))
theorem Wk.rs_lt {n : Nat} {M : List (List Nat)} (h : Wk n M) {i : Nat} (hi : i < n) : sN n (mf M i) < 2 ^ 23 := sN_bits h.n6 fun j hj => h.k i j hi hj
theorem Wk.pN_lt {n : Nat} {M : List (List Nat)} (h : Wk n M) {i : Nat} (hi : i < n) : pN n (mf M) i < 2 ^ 763 := by
  rw [show 763 = 740 + 23 from rfl]
  exact mul_bits (h.sol_lt i) (h.rs_lt hi)
theorem Wk.pN_pos {n : Nat} {M : List (List Nat)} (h : Wk n M) {i : Nat} (hi : i < n) : 0 < pN n (mf M) i := Nat.mul_pos (sol_pos h.st i hi) (h.p i hi)
def allN (n : Nat) (M : List (List Nat)) : Nat := sN n (pN n (mf M))
theorem Wk.all_lt {n : Nat} {M : List (List Nat)} (h : Wk n M) : allN n M < 2 ^ 766 := by
  rw [show 766 = 763 + 3 from rfl]
  exact sN_bits h.n6 fun i hi => h.pN_lt hi
theorem Wk.all_pos {n : Nat} {M : List (List Nat)} (h : Wk n M) : 0 < allN n M := sN_pos (i := 0) (by have := h.n1; omega) (h.pN_pos (by have := h.n1; omega))
/-- the shares -/
def shQ (n : Nat) (M : List (List Nat)) (i : Nat) : Rat := fQ (pN n (mf M) i) / fQ (allN n M)
theorem Wk.ch_sz {n : Nat} {M : List (List Nat)} (h : Wk n M) {t : Nat} (ht : t + 2 ≤ n) {i j : Nat} (hi : i < n - t) (hj : j < n - t) : Bq.Sz 383 (chQ (n - t) (stg n (mf M) t) i j) := by
  have hb := bit_le h.n6 ht
  have n6 := h.n6
  have lt := stg_lt h.n6 h.k t (by omega)
  refine fQ_sz (Nat.lt_of_lt_of_le (lt i j hi hj) (pow_le (by omega))) (Nat.lt_of_lt_of_le (sN_bits (b := bitN 20 t) (by omega) fun j hj => lt i j hi hj) (pow_le (by omega))) (out_pos (stg_str h.st t (by omega)) (by omega) hi)
theorem bkQ_eq {l : Nat} {M : Nat → Nat → Nat} (h : StrN (l + 1) M) (hl : 1 ≤ l) {i : Nat} (hi : i < l) : bkQ l M i = fQ (M i l * sN (l + 1) (M l)) / fQ (sN (l + 1) (M i) * gN M l) := by
  have g0 := fQ_ne (g_pos h hl)
  have r1 := fQ_ne (out_pos h (by omega) (show i < l + 1 by omega))
  have r2 := fQ_ne (out_pos h (by omega) (show l < l + 1 by omega))
  unfold bkQ chQ
  rw [fQ_mul, fQ_mul]
  generalize fQ (gN M l) = g at *
  generalize fQ (sN (l + 1) (M i)) = r at *
  generalize fQ (sN (l + 1) (M l)) = t at *
  grind
theorem Wk.bk_sz {n : Nat} {M : List (List Nat)} (h : Wk n M) {l : Nat} (hl : 1 ≤ l) (hn : l < n) {i : Nat} (hi : i < l) : Bq.Sz 770 (bkQ l (stg n (mf M) (n - 1 - l)) i) := by
  have hb := bit_le (k := n - 1 - l) h.n6 (by omega)
  have n6 := h.n6
  have lt := stg_lt h.n6 h.k (n - 1 - l) (by omega)
  have st := stg_str h.st (n - 1 - l) (by omega)
  have e : n - (n - 1 - l) = l + 1 := by omega
  rw [e] at st lt
  rw [bkQ_eq st hl hi]
  generalize bitN 20 (n - 1 - l) = b at *
  have g0 := g_pos st hl
  have r1 := out_pos st (by omega) (show i < l + 1 by omega)
  have s1 := sN_bits (n := l + 1) (f := stg n (mf M) (n - 1 - l) l) (b := b) (by omega) fun j hj => lt _ _ (by omega) hj
  have s2 := sN_bits (n := l + 1) (f := stg n (mf M) (n - 1 - l) i) (b := b) (by omega) fun j hj => lt _ _ (by omega) hj
  have s3 := sN_bits (n := l) (f := stg n (mf M) (n - 1 - l) l) (b := b) (by omega) fun j hj => lt _ _ (by omega) (by omega)
  refine fQ_sz (Nat.lt_of_lt_of_le (mul_bits (lt i l (by omega) (by omega)) s1) (pow_le (by omega))) (Nat.lt_of_lt_of_le (mul_bits s2 s3) (pow_le (by omega))) (Nat.mul_pos r1 g0)
theorem Wk.found_sz {n : Nat} {M : List (List Nat)} (h : Wk n M) {i : Nat} (hi : i < n) : Bq.Sz 770 (fQ (pN n (mf M) i) / fQ (pN n (mf M) 0)) :=
  fQ_sz (Nat.lt_of_lt_of_le (h.pN_lt hi) (pow_le (by omega))) (Nat.lt_of_lt_of_le (h.pN_lt (by have := h.n1; omega)) (pow_le (by omega))) (h.pN_pos (by have := h.n1; omega))
theorem Wk.sh_sz {n : Nat} {M : List (List Nat)} (h : Wk n M) {i : Nat} (hi : i < n) : Bq.Sz 770 (shQ n M i) :=
  fQ_sz (Nat.lt_of_lt_of_le (h.pN_lt hi) (pow_le (by omega))) (Nat.lt_of_lt_of_le h.all_lt (pow_le (by omega))) h.all_pos
theorem Wk.sh_pos {n : Nat} {M : List (List Nat)} (h : Wk n M) {i : Nat} (hi : i < n) : 0 < shQ n M i := by
  unfold shQ
  rw [Rat.div_def]
  exact Rat.mul_pos (fQ_pos (h.pN_pos hi)) (Rat.inv_pos.mpr (fQ_pos h.all_pos))
/-! ### flows, the walk backwards -/
def flN (n : Nat) (M : List (List Nat)) (i j : Nat) : Nat := sol n (mf M) i * mf M i j
theorem Wk.fl_eq {n : Nat} {M : List (List Nat)} (h : Wk n M) {i : Nat} (hi : i < n) (j : Nat) : shQ n M i * chQ n (mf M) i j = fQ (flN n M i j) / fQ (allN n M) := by
  have r := fQ_ne (h.p i hi)
  unfold shQ chQ pN flN
  rw [fQ_mul, fQ_mul]
  generalize fQ (sN n (mf M i)) = a at *
  grind
theorem Wk.fl_lt {n : Nat} {M : List (List Nat)} (h : Wk n M) {i j : Nat} (hi : i < n) (hj : j < n) : flN n M i j < 2 ^ 760 := by
  rw [show 760 = 740 + 20 from rfl]
  exact mul_bits (h.sol_lt i) (h.k i j hi hj)
theorem Wk.fl_sz {n : Nat} {M : List (List Nat)} (h : Wk n M) {i j : Nat} (hi : i < n) (hj : j < n) : Bq.Sz 770 (fQ (flN n M i j) / fQ (allN n M)) :=
  fQ_sz (Nat.lt_of_lt_of_le (h.fl_lt hi hj) (pow_le (by omega))) (Nat.lt_of_lt_of_le h.all_lt (pow_le (by omega))) h.all_pos
/-- the square of the walk backwards -/
def bkM (n : Nat) (M : List (List Nat)) : List (List Nat) := (List.range n).map fun i => (List.range n).map fun j => flN n M j i
theorem bkM_at {n : Nat} {M : List (List Nat)} {i j : Nat} (hi : i < n) (hj : j < n) : mf (bkM n M) i j = flN n M j i := by
  have e : (bkM n M)[i]? = some ((List.range n).map fun j => flN n M j i) := by
    unfold bkM
    rw [List.getElem?_map, List.getElem?_range hi]
    rfl
  rw [mf_row e]
  show ((List.range n).map fun j => flN n M j i).getD j 0 = _
  rw [List.getD_eq_getElem?_getD, List.getElem?_map, List.getElem?_range hj]
  rfl
theorem Wk.bk_sum {n : Nat} {M : List (List Nat)} (h : Wk n M) {i : Nat} (hi : i < n) : sN n (mf (bkM n M) i) = pN n (mf M) i := by
  have e : sN n (mf (bkM n M) i) = sN n fun j => flN n M j i := sN_congr fun j hj => bkM_at hi hj
  rw [e]
  exact sol_bal (mf M) h.n1 i hi
theorem Wk.bk_ch {n : Nat} {M : List (List Nat)} (h : Wk n M) {i j : Nat} (hi : i < n) (hj : j < n) : chQ n (mf (bkM n M)) i j = fQ (flN n M j i) / fQ (pN n (mf M) i) := by
  unfold chQ
  rw [bkM_at hi hj, h.bk_sum hi]
theorem Wk.bk_row {n : Nat} {M : List (List Nat)} (h : Wk n M) {i : Nat} (hi : i < n) : (walkM (bkM n M))[i]? = some ((List.range n).map fun j => fQ (flN n M j i) / fQ (pN n (mf M) i)) := by
  have e : (bkM n M)[i]? = some ((List.range n).map fun j => flN n M j i) := by
    unfold bkM
    rw [List.getElem?_map, List.getElem?_range hi]
    rfl
  unfold walkM
  rw [List.getElem?_map, e]
  show some (overQ _) = _
  rw [overQ_eq (n := n) (by simp), ← h.bk_sum hi, mf_row e]
  refine congrArg some (List.map_congr_left fun j hj => ?_)
  rw [List.getD_eq_getElem?_getD, List.getElem?_map, List.getElem?_range (List.mem_range.mp hj)]
  rfl
theorem Wk.bk_over {n : Nat} {M : List (List Nat)} (h : Wk n M) {i : Nat} (hi : i < n) :
    (((List.range n).map fun j => fQ (flN n M j i) / fQ (allN n M)).map fun q => q / Bq.sumQ ((List.range n).map fun j => fQ (flN n M j i) / fQ (allN n M))) = (List.range n).map fun j => fQ (flN n M j i) / fQ (pN n (mf M) i) := by
  have a0 := fQ_ne h.all_pos
  have e : sN n (fun j => flN n M j i) = pN n (mf M) i := sol_bal (mf M) h.n1 i hi
  rw [sumQ_div, e, List.map_map]
  refine List.map_congr_left fun j hj => ?_
  have p0 := fQ_ne (h.pN_pos hi)
  show fQ (flN n M j i) / fQ (allN n M) / (fQ (pN n (mf M) i) / fQ (allN n M)) = _
  generalize fQ (allN n M) = a at *
  generalize fQ (pN n (mf M) i) = b at *
  grind
theorem Wk.sum_pos {n : Nat} {M : List (List Nat)} (h : Wk n M) {i : Nat} (hi : i < n) : 0 < Bq.sumQ ((List.range n).map fun j => fQ (flN n M j i) / fQ (allN n M)) := by
  have e : sN n (fun j => flN n M j i) = pN n (mf M) i := sol_bal (mf M) h.n1 i hi
  rw [sumQ_div, e]
  exact h.sh_pos hi
theorem Wk.bk_sz2 {n : Nat} {M : List (List Nat)} (h : Wk n M) {i j : Nat} (hi : i < n) (hj : j < n) : Bq.Sz 770 (fQ (flN n M j i) / fQ (pN n (mf M) i)) :=
  fQ_sz (Nat.lt_of_lt_of_le (h.fl_lt hj hi) (pow_le (by omega))) (Nat.lt_of_lt_of_le (h.pN_lt hi) (pow_le (by omega))) (h.pN_pos hi)
/-! ### products round a ring -/
def fw (R : Nat → Nat → Rat) : List (Nat × Nat) → Rat
  | [] => 1
  | p :: t => R p.1 p.2 * fw R t
theorem fw_app (R : Nat → Nat → Rat) : ∀ l m, fw R (l ++ m) = fw R l * fw R m
  | [], m => by
    rw [List.nil_append, fw]
    grind
  | p :: l, m => by
    rw [List.cons_append, fw, fw_app R l m, fw]
    grind
theorem fw_one (R : Nat → Nat → Rat) (p : Nat × Nat) : fw R [p] = R p.1 p.2 := by
  rw [fw, fw]
  grind
theorem fw_congr {R S : Nat → Nat → Rat} : ∀ {l : List (Nat × Nat)}, (∀ p ∈ l, R p.1 p.2 = S p.1 p.2) → fw R l = fw S l
  | [], _ => rfl
  | p :: l, h => by
    rw [fw, fw, h p List.mem_cons_self, fw_congr fun q hq => h q (List.mem_cons_of_mem _ hq)]
def prf (f : Nat → Rat) : List Nat → Rat
  | [] => 1
  | a :: t => f a * prf f t
theorem prf_app (f : Nat → Rat) : ∀ l m, prf f (l ++ m) = prf f l * prf f m
  | [], m => by
    rw [List.nil_append, prf]
    grind
  | a :: l, m => by
    rw [List.cons_append, prf, prf_app f l m, prf]
    grind
theorem prf_ne {f : Nat → Rat} : ∀ {l : List Nat}, (∀ a ∈ l, f a ≠ 0) → prf f l ≠ 0
  | [], _ => by
    rw [prf]
    decide
  | a :: l, h => by
    have h1 := h a List.mem_cons_self
    have h2 := prf_ne (f := f) (l := l) fun b hb => h b (List.mem_cons_of_mem _ hb)
    rw [prf]
    exact fun z => (Rat.mul_eq_zero.mp z).elim h1 h2
theorem fw_ratio {f : Nat → Rat} {g : Nat → Nat → Rat} : ∀ {l : List (Nat × Nat)}, (∀ p ∈ l, f p.1 ≠ 0) → fw (fun x y => f y / f x * g x y) l = prf f (l.map (·.2)) / prf f (l.map (·.1)) * fw g l
  | [], _ => by
    simp only [fw, List.map_nil, prf]
    grind
  | p :: l, h => by
    have h1 := h p List.mem_cons_self
    have h2 := prf_ne (f := f) (l := l.map (·.1)) fun b hb => by
      obtain ⟨q, hq, rfl⟩ := List.mem_map.mp hb
      exact h q (List.mem_cons_of_mem _ hq)
    rw [fw, fw_ratio fun q hq => h q (List.mem_cons_of_mem _ hq), fw]
    simp only [List.map_cons, prf]
    generalize prf f (l.map (·.1)) = a at *
    generalize prf f (l.map (·.2)) = b at *
    grind
theorem fw_ratio2 {f : Nat → Rat} {g : Nat → Nat → Rat} : ∀ {l : List (Nat × Nat)}, (∀ p ∈ l, f p.2 ≠ 0) → fw (fun x y => f x / f y * g x y) l = prf f (l.map (·.1)) / prf f (l.map (·.2)) * fw g l
  | [], _ => by
    simp only [fw, List.map_nil, prf]
    grind
  | p :: l, h => by
    have h1 := h p List.mem_cons_self
    have h2 := prf_ne (f := f) (l := l.map (·.2)) fun b hb => by
      obtain ⟨q, hq, rfl⟩ := List.mem_map.mp hb
      exact h q (List.mem_cons_of_mem _ hq)
    rw [fw, fw_ratio2 fun q hq => h q (List.mem_cons_of_mem _ hq), fw]
    simp only [List.map_cons, prf]
    generalize prf f (l.map (·.1)) = a at *
    generalize prf f (l.map (·.2)) = b at *
    grind
/-- the steps of a ring -/
def rot (l : List Nat) : List Nat := l.drop 1 ++ l.take 1
def stp (l : List Nat) : List (Nat × Nat) := l.zip (rot l)
theorem rot_len (l : List Nat) : (rot l).length = l.length := by
  unfold rot
  rw [List.length_append, List.length_drop, List.length_take]
  omega
theorem stp_fst (l : List Nat) : (stp l).map (·.1) = l := by
  unfold stp
  exact List.map_fst_zip (Nat.le_of_eq (rot_len l).symm)
theorem stp_snd (l : List Nat) : (stp l).map (·.2) = rot l := by
  unfold stp
  exact List.map_snd_zip (Nat.le_of_eq (rot_len l))
theorem prf_rot (f : Nat → Rat) (l : List Nat) : prf f (rot l) = prf f l := by
  have h := prf_app f (l.take 1) (l.drop 1)
  rw [List.take_append_drop] at h
  unfold rot
  rw [prf_app, h]
  grind
theorem stp_mem {l : List Nat} {p : Nat × Nat} (h : p ∈ stp l) : p.1 ∈ l ∧ p.2 ∈ l := by
  constructor
  · have : p.1 ∈ (stp l).map (·.1) := List.mem_map.mpr ⟨p, h, rfl⟩
    rw [stp_fst] at this
    exact this
  · have : p.2 ∈ (stp l).map (·.2) := List.mem_map.mpr ⟨p, h, rfl⟩
    rw [stp_snd] at this
    unfold rot at this
    rcases List.mem_append.mp this with z | z
    · exact List.mem_of_mem_drop z
    · exact List.mem_of_mem_take z
/-- backwards both products are exchanged -/
theorem Wk.turned {n : Nat} {M : List (List Nat)} (h : Wk n M) {l : List Nat} (hl : ∀ a ∈ l, a < n) :
    fw (chQ n (mf (bkM n M))) (stp l) = fw (fun x y => chQ n (mf M) y x) (stp l) ∧ fw (fun x y => chQ n (mf (bkM n M)) y x) (stp l) = fw (chQ n (mf M)) (stp l) := by
  let f : Nat → Rat := fun i => fQ (pN n (mf M) i)
  have f0 : ∀ i, i < n → f i ≠ 0 := fun i hi => fQ_ne (h.pN_pos hi)
  have key : ∀ i j, i < n → j < n → chQ n (mf (bkM n M)) i j = f j / f i * chQ n (mf M) j i := fun i j hi hj => by
    have r := fQ_ne (h.p j hj)
    rw [h.bk_ch hi hj]
    show _ = fQ (pN n (mf M) j) / fQ (pN n (mf M) i) * chQ n (mf M) j i
    unfold chQ
    have e : fQ (pN n (mf M) j) = fQ (sol n (mf M) j) * fQ (sN n (mf M j)) := fQ_mul _ _
    have e2 : fQ (flN n M j i) = fQ (sol n (mf M) j) * fQ (mf M j i) := fQ_mul _ _
    rw [e, e2]
    generalize fQ (sN n (mf M j)) = a at *
    grind
  have p0 : prf f l ≠ 0 := prf_ne fun a ha => f0 a (hl a ha)
  constructor
  · have e1 : fw (chQ n (mf (bkM n M))) (stp l) = fw (fun x y => f y / f x * chQ n (mf M) y x) (stp l) := fw_congr fun p hp => key _ _ (hl _ (stp_mem hp).1) (hl _ (stp_mem hp).2)
    rw [e1, fw_ratio (f := f) (g := fun x y => chQ n (mf M) y x) fun p hp => f0 _ (hl _ (stp_mem hp).1), stp_fst, stp_snd, prf_rot]
    generalize prf f l = a at *
    grind
  · have e1 : fw (fun x y => chQ n (mf (bkM n M)) y x) (stp l) = fw (fun x y => f x / f y * chQ n (mf M) x y) (stp l) := fw_congr fun p hp => key _ _ (hl _ (stp_mem hp).2) (hl _ (stp_mem hp).1)
    rw [e1, fw_ratio2 (f := f) (g := fun x y => chQ n (mf M) x y) fun p hp => f0 _ (hl _ (stp_mem hp).2), stp_fst, stp_snd, prf_rot]
    show prf f l / prf f l * fw (chQ n (mf M)) (stp l) = _
    generalize prf f l = a at *
    grind
end Bw
/-! Part 14. enumerate of a tuple, zip of two tuples in a comprehension, x *= y. -/
namespace Bw
open PySem PySem.Spec PyProof.Rows L2
theorem meets_newT {v : Value} {ob : Obj} {G : Heap → Prop} (B : Begins v ob G) :
    Meets (Builtin.«enumerate.__new__» ⟨[.type "enumerate", v], []⟩) (fun _ R s =>
      G s.heap ∧ R (.ok (.ret (.ref (s.heap.push ob).objs.size))) { s with
        heap := (s.heap.push ob).push { cls := .type "enumerate", data := .fields #[.none, .bool false, .ref s.heap.objs.size, rawInt 0, .none, .none] } }) :=
  .of_wp fun pg wo Ar R s z => by
    obtain ⟨hp, gs, dr, tk, os⟩ := s
    obtain ⟨z1, z⟩ := z
    have sub0 := sub_enumerate
    have begun : ∀ {A' : Around} {E Q : Value → Shared → Prop}, Q (.ref hp.objs.size) ⟨hp.push ob, gs, dr, tk, os⟩ →
        wpAny (model pg wo) A' (pyIter v) Q E ⟨hp, gs, dr, tk, os⟩ := fun y => B.iter pg wo _ _ ⟨hp, gs, dr, tk, os⟩ _ z1 y
    wp_walk using begun
    refine wpAny_stack_any fun sk => wpAny_pure ?_
    split
    · rename_i c _ _ _ _ _
      cases (c == Value.type "enumerate")
      · wp_walk using begun
        exact ⟨_, rfl, z⟩
      · wp_walk using begun
        exact ⟨_, rfl, z⟩
    · wp_walk using begun
      exact ⟨_, rfl, z⟩
end Bw
/-! Part 14. enumerate of a tuple, zip of two tuples in a comprehension, x *= y. -/
namespace Bw
open PySem PySem.Spec PyProof.Rows L2
section
variable {pg : Program} {wo : World} {Ar : Around} {E : Value → Shared → Prop} {s : Shared}
theorem call_enumT {v : Value} {ob : Obj} {G : Heap → Prop} {Q : Value → Shared → Prop} (B : Begins v ob G) (z : G s.heap)
    (q : ∀ h', IsEnum h' (s.heap.objs.size + 1) s.heap.objs.size 0 .none → h'.get? s.heap.objs.size = some ob →
      (∀ b o, s.heap.get? b = some o → h'.get? b = some o) → Q (.ref (s.heap.objs.size + 1)) { s with heap := h' }) :
    wpAny (model pg wo) Ar (call (.type "enumerate") [v]) Q E s := by
  refine callType_new F.called_enumerate (by decide) (F.typeCall_enumerate_1 _) (F.newCall_enumerate_1 _) (fun o => F.args_object_init_2 o _) F.entry_enumerate_new (meets_newT B) ⟨z, ?_⟩
  have sz : (s.heap.push ob).objs.size = s.heap.objs.size + 1 := Heap.size_push ..
  show _ ∧ _
  rw [sz]
  have en : IsEnum ((s.heap.push ob).push { cls := .type "enumerate", data := .fields #[.none, .bool false, .ref s.heap.objs.size, rawInt 0, .none, .none] })
      (s.heap.objs.size + 1) s.heap.objs.size 0 .none := by
    rw [← sz]
    exact Heap.get?_push_size _ rfl
  exact ⟨⟨_, en, rfl⟩, q _ en (Heap.get?_push_of_some _ (Heap.get?_push_size _ B.free)) fun b o y => Heap.get?_push_of_some _ (Heap.get?_push_of_some _ y)⟩
end
section
variable {pg : Program} {wo : World} {Ar : Around} {E : Value → Shared → Prop} {s : Shared}
theorem wpAny_pyNext_tupEnd {e it a : Addr} {i : Nat} {items : Array Value} {old : Value} {Q : Option Value → Shared → Prop} (hh : Ar.handled = none)
    (he : IsEnum s.heap e it ((i : Nat) : Int) old) (hit : s.heap.IsTupleIter it a i) (ht : s.heap.IsTuple a items) (na : a ≠ it) (hi : items.size ≤ i)
    (q : ∀ h', Heap.ExtBut it s.heap h' → Q none { s with heap := h' }) : wpAny (model pg wo) Ar (pyNext (.ref e)) Q E s := by
  have ty : s.TypeIs (.ref e) "enumerate" := ⟨_, he, rfl⟩
  unfold pyNext
  refine wpAny_bind (wpAny_attempt (wpAny_callSpecial?_slot (name := Str.ofString "__next__") ty F.slot_enumerate_next (wpAny_call_entry F.slot_enumerate_next ty F.entry_enumerate_next ?_ (F.args_enumerate_next_1 _))))
  show wpAny _ _ (field (.ref e) 2 >>= _) _ _ _
  refine wpAny_bind (wpAny_field he rfl (x := .ref it) rfl ?_)
  refine wpAny_bind (wpAny_nextOf_tuple_end (by simpa using hh) hit ht (by simpa using hi) fun h' x ex hx => ?_)
  obtain ⟨o, go, co⟩ := hx
  exact wpAny_bind (wpAny_isInstance (T := "StopIteration") (b := true) ⟨o, go, co⟩ isSubtype_stop (wpAny_pure (q _ ex)))
end
/-- the items of the tuple at a, each in a new pair behind its index -/
def IteT (K : PySem.W.Frag) (a : Addr) : It :=
  ⟨fun i H => ∃ (xs : List V) (x : V), SqT K H a xs ∧ xs[i]? = some x,
   fun i H v H' => ∃ T x, v = .ref T ∧ H T = none ∧ H' = upd H T (.tup [.int (i : Nat), x]) ∧ ∀ xs, SqT K H a xs → xs[i]? = some x,
   fun i H => ∃ xs : List V, SqT K H a xs ∧ xs.length ≤ i⟩
theorem walk_enumT {K : PySem.W.Frag} {a : Addr} {xs : List V} : Walk (IteT K a) xs.length (fun H => SqT K H a xs) (YPair (fun i => some (.int (i : Nat))) (fun i => xs[i]?)) := by
  refine ⟨fun i _ hi q => ⟨xs, xs[i], q, List.getElem?_eq_getElem hi⟩, fun _ q => ⟨xs, q, Nat.le_refl _⟩, fun i H v H' _ q y => ?_⟩
  obtain ⟨T, x, e1, e2, e3, e4⟩ := y
  exact ⟨T, _, x, e1, e2, e3, rfl, e4 xs q⟩
theorem turn_enumT {P : Program} {w : World} {K : PySem.W.Frag} {elts : List Expr} {kk : Nat} {tp : PySem.Pos} (a e it : Addr) :
    Turn P w K (.Tuple elts kk tp) (IteT K a) [e, it] e (fun i h => (∃ old, IsEnum h e it ((i : Nat) : Int) old) ∧ h.IsTupleIter it a i ∧ e ≠ it) where
  mem := List.mem_cons_self
  obj := fun i h st b hb => by
    obtain ⟨⟨old, he⟩, ⟨o, ho, hc, hd⟩, _⟩ := st
    rcases List.mem_cons.mp hb with z | z
    · subst z
      exact ⟨_, he, fun v q => nomatch q⟩
    · obtain rfl := List.mem_singleton.mp z
      refine ⟨o, ho, fun v q => ?_⟩
      rw [hd] at q
      cases q
  keep := fun i h h' st k => ⟨st.1.imp fun old he => k e List.mem_cons_self _ he, st.2.1.at fun o q => k it (by simp) o q, st.2.2⟩
  item := by
    intro X hP hw hK hc i pins s σ H E I hf st hg
    subst hP hw hK
    obtain ⟨⟨old, he⟩, hit, hne⟩ := st
    obtain ⟨xs, x0, hq, hx⟩ := hg
    obtain ⟨its, rv, pt, hz⟩ := I.tuple hq
    have tup : s.heap.IsTuple a its.toArray := pt
    obtain ⟨u0, hu, ru⟩ := rv.get hx
    have nai : a ≠ it := fun z => by
      obtain ⟨o1, g1, c1, _⟩ := tup
      obtain ⟨o2, g2, c2, _⟩ := hit
      rw [z, g2] at g1
      cases g1
      rw [c1] at c2
      injection c2 with c3
      revert c3
      decide
    have nea : e ≠ a := fun z => by
      obtain ⟨o1, g1, c1, _⟩ := tup
      rw [← z, he] at g1
      cases g1
      injection c1 with c3
      revert c3
      decide
    have hel : e < s.heap.objs.size := Heap.lt_size he
    have hil : it < s.heap.objs.size := by
      obtain ⟨_, q, _⟩ := hit
      exact Heap.lt_size q
    have hlt : i < its.toArray.size := by
      rw [List.size_toArray]
      exact (List.getElem?_eq_some_iff.mp hu).1
    refine wpAny_pyNext_enum_itemD (Draws.tuple (A := X.A.in1) (I.ok.hd hc) it a nai its.toArray) he ⟨hit, tup⟩ hlt hne (by simp [hne, nea]) fun x h' tk hPx ho hst' hT hsz hk => ?_
    have exu : x = u0 := by
      have h1 : its.toArray[i]? = some x := hPx
      rw [List.getElem?_toArray, hu] at h1
      exact (Option.some.inj h1).symm
    subst exu
    refine ⟨_, rfl, wpAny_letOwnedTupleGo_enum (s := { s with heap := h', toks := tk + 1 }) ho fun h2 he2 sb => ?_⟩
    have hT2 : h2.get? s.heap.objs.size = some { cls := .type "tuple", data := .seq #[.int i tk, x] } := (sb.2 _ (Nat.ne_of_gt hel)).trans hT
    have fresh : ObjOk X.prog X.w (upd H s.heap.objs.size (.tup [.int (i : Nat), x0])) h2 s.heap.objs.size (.tup [.int (i : Nat), x0]) :=
      ⟨by show 2 ≤ sizeLine; decide, [.int i tk, x], .cons ⟨_, rfl⟩ (.cons ru .nil), ⟨_, hT2, rfl, _, rfl⟩⟩
    have I1 : Inv X pins σ (upd H s.heap.objs.size (.tup [.int (i : Nat), x0])) { s with heap := h2, toks := tk + 1 } :=
      I.turnedNew (ch := [e, it]) (fun b o hb q => (sb.2 b fun z => hb (by simp [z])).trans (hk b o (fun z => hb (by simp [z])) (fun z => hb (by simp [z])) q)) hf (Nat.le_refl _) fresh
    refine ⟨.ref s.heap.objs.size, _, I1, rfl, ⟨_, x0, rfl, I.hok.fresh (Nat.le_refl _), rfl, fun ys hy => ?_⟩, ⟨⟨x, ?_⟩, hst'.1.at fun o q => (sb.2 it (Ne.symm hne)).trans q, hne⟩, fun b hb => ?_⟩
    · rw [I.tuple_inj hy hq]
      exact hx
    · have e1 : ((i + 1 : Nat) : Int) = (i : Int) + 1 := by omega
      rw [e1]
      exact he2
    · have hb2 : b < s.heap.objs.size := by
        rcases List.mem_cons.mp hb with z | z
        · rw [z]
          exact hel
        · rw [List.mem_singleton.mp z]
          exact hil
      rw [upd_ne (Nat.ne_of_lt hb2)]
      exact (hf b hb).1
  done := by
    intro X hP hw hK hc i pins s σ H E I hf st hg
    subst hP hw hK
    obtain ⟨⟨old, he⟩, hit, hne⟩ := st
    obtain ⟨xs, hq, hx⟩ := hg
    obtain ⟨its, rv, pt, hz⟩ := I.tuple hq
    have tup : s.heap.IsTuple a its.toArray := pt
    have nai : a ≠ it := fun z => by
      obtain ⟨o1, g1, c1, _⟩ := tup
      obtain ⟨o2, g2, c2, _⟩ := hit
      rw [z, g2] at g1
      cases g1
      rw [c1] at c2
      injection c2 with c3
      revert c3
      decide
    obtain ⟨f0, f1, f2, f3, f4, f5⟩ := hf it (by simp)
    have hl := rv.length
    exact wpAny_pyNext_tupEnd (I.ok.hd hc) he hit tup nai (by rw [List.size_toArray]; omega) fun h' eb => ⟨rfl, I.turned (t' := s.toks) (fun b o hb q => eb b o hb q) f0 f1 f3 f4 f5⟩
  self := fun A i s Q E st h => let ⟨⟨_, he⟩, _⟩ := st; wpAny_pyIter_enum he h
def iEnumT (K : PySem.W.Frag) (ta : TA) : TI := fun σ H R => ta σ H fun vs H1 => ∃ a xs, vs = [.ref a] ∧ SqT K H1 a xs ∧ R (IteT K a) H1
theorem pi_enumT {X : Cx} {e : Expr} {ta : TA} {p pos tp : PySem.Pos} {elts : List Expr} {kk : Nat} (hg : Gl X "enumerate") (hm : X.mg "enumerate" = none) (ha : PA X [e] ta) (hs : starEach [e] X.env = [(false, eval e X.env)] := by rfl) :
    PI X (.Tuple elts kk tp) (.Call (.Name "enumerate" p) [e] [] pos) (iEnumT X.K ta) := by
  refine ⟨fun pins s σ H R I h => ?_⟩
  refine Call_ (ld_blt I hg hm boot_enumerate (PyProof.Rows.callWith_type1 (thn (ha.run pos pins s σ H _ I h) fun us s1 ⟨vs, H1, I1, r1, q1⟩ => ?_) hs rfl))
  obtain ⟨a, xs, ex, hq, q⟩ := q1
  subst ex
  cases r1 with
  | cons r rr =>
    cases rr
    cases r
    obtain ⟨its, rv, pt, hz⟩ := I1.tuple hq
    refine call_enumT (begins_tuple a its.toArray) pt fun h' he hit hk => wpAny_pyIter_enum he ?_
    have I2 : Inv X pins σ H1 { s1 with heap := h' } := I1.kept (t' := s1.toks) hk
    refine ⟨s1.heap.objs.size + 1, [s1.heap.objs.size + 1, s1.heap.objs.size], _, _, H1, rfl, I2, turn_enumT a (s1.heap.objs.size + 1) s1.heap.objs.size, ⟨⟨.none, he⟩, ⟨_, hit, rfl, rfl⟩, Nat.succ_ne_self _⟩, fun b hb => ?_, q⟩
    have hle : s1.heap.objs.size ≤ b := by
      rcases List.mem_cons.mp hb with z | z
      · rw [z]
        exact Nat.le_succ _
      · rw [List.mem_singleton.mp z]
        exact Nat.le_refl _
    exact I1.fpOk hle (I1.hok.fresh hle)
theorem walk_zipT {K : PySem.W.Frag} {a b : Addr} {xs ys : List V} (hl : xs.length = ys.length) : Walk (RZ.ItzT K a b) xs.length (fun H => SqT K H a xs ∧ SqT K H b ys) (YPair (fun i => xs[i]?) (fun i => ys[i]?)) := by
  refine ⟨fun i _ hi q => ⟨xs, ys, xs[i], ys[i]'(by omega), q.1, q.2, List.getElem?_eq_getElem hi, List.getElem?_eq_getElem (by omega)⟩, fun _ q => ⟨xs, ys, q.1, q.2, .inl (Nat.le_refl _)⟩, fun i H v H' _ q y => ?_⟩
  obtain ⟨T, x, z, e1, e2, e3, e4, e5⟩ := y
  exact ⟨T, x, z, e1, e2, e3, e4 xs q.1, e5 ys q.2⟩
/-- a pair told of within a comprehension -/
theorem pg_tupK {K : PySem.W.Frag} {X : Cx} (hK : X.K = K) {es : List Expr} {k : Nat} {t : TGs} {n : Nat} {pos : PySem.Pos} (hc : X.calm = true) (h : PGs X es t) (hn : (assignEach es X.env).length = n := by rfl)
    (hst : (assignEach es X.env).findIdx? (·.1) = none := by rfl) : PG X (.Tuple es k pos) (gTup K n t) := by
  subst hK
  exact pg_tup hc h hn hst
/-- x *= y, numbers of any size -/
theorem ip_mulW {X : Cx} : PIp X .Mult (fun x y H Q => ∃ i j, x = .int i ∧ y = .int j ∧ CMulW i j ∧ Q (.int (i * j)) H) := by
  intro pins s σ H x y v u Q I r1 r2 h
  obtain ⟨i, j, rfl, rfl, hc, q⟩ := h
  obtain ⟨t, rfl⟩ := r1
  obtain ⟨t2, rfl⟩ := r2
  exact PyProof.Rows.imul_int ⟨.int _, H, I.tok _, ⟨_, rfl⟩, q⟩ hc.ok
end Bw
/-! Part 17. Determinants of squares of whole numbers, by their first columns; leaving out the first row and column (Chio). Plain mathematics. -/
namespace Bw
/-- f 0 + .. + f (n - 1) -/
def sZ : Nat → (Nat → Int) → Int
  | 0, _ => 0
  | n + 1, f => sZ n f + f n
theorem sZ_congr {f g : Nat → Int} : ∀ {n : Nat}, (∀ i, i < n → f i = g i) → sZ n f = sZ n g
  | 0, _ => rfl
  | n + 1, h => by
    rw [sZ, sZ, sZ_congr fun i hi => h i (by omega), h n (by omega)]
theorem sZ_zero {f : Nat → Int} : ∀ {n : Nat}, (∀ i, i < n → f i = 0) → sZ n f = 0
  | 0, _ => rfl
  | n + 1, h => by
    rw [sZ, sZ_zero fun i hi => h i (by omega), h n (by omega)]
    rfl
theorem sZ_lin (f g : Nat → Int) (c : Int) : ∀ n, sZ n (fun i => f i + c * g i) = sZ n f + c * sZ n g
  | 0 => by simp [sZ]
  | n + 1 => by
    simp only [sZ]
    rw [sZ_lin f g c n, Int.mul_add]
    omega
theorem sZ_neg (f : Nat → Int) : ∀ n, sZ n (fun i => - f i) = - sZ n f
  | 0 => by simp [sZ]
  | n + 1 => by
    simp only [sZ]
    rw [sZ_neg f n]
    omega
/-- two places alone, which are each other's opposites -/
theorem sZ_two {f : Nat → Int} {a b : Nat} (hab : a < b) (h : f a + f b = 0) : ∀ {n : Nat}, b < n → (∀ i, i < n → i ≠ a → i ≠ b → f i = 0) → sZ n f = 0 := fun {n} => by
  have one : ∀ {n : Nat}, a < n → n ≤ b → (∀ i, i < n → i ≠ a → f i = 0) → sZ n f = f a := fun {n} => by
    induction n with
    | zero => intro h; omega
    | succ n ih =>
      intro h1 h2 h3
      rw [sZ]
      by_cases c : a = n
      · rw [sZ_zero fun i hi => h3 i (by omega) (by omega), c]
        omega
      · rw [ih (by omega) (by omega) fun i hi => h3 i (by omega), h3 n (by omega) (by omega)]
        omega
  induction n with
  | zero => intro h; omega
  | succ n ih =>
    intro h1 h2
    rw [sZ]
    by_cases c : b = n
    · rw [one (n := n) (by omega) (by omega) fun i hi ne => h2 i (by omega) ne (by omega), ← c]
      exact h
    · rw [ih (by omega) fun i hi => h2 i (by omega), h2 n (by omega) (by omega) (by omega)]
      rfl
/-- the rows but row i, the columns but the first one -/
def mn (A : Nat → Nat → Int) (i : Nat) : Nat → Nat → Int := fun r c => A (if r < i then r else r + 1) (c + 1)
def sg (i : Nat) : Int := if i % 2 = 0 then 1 else -1
theorem sg_succ (i : Nat) : sg (i + 1) = - sg i := by
  unfold sg
  by_cases h : i % 2 = 0
  · rw [if_pos h, if_neg (by omega)]
  · rw [if_neg h, if_pos (by omega)]
    rfl
def det : Nat → (Nat → Nat → Int) → Int
  | 0, _ => 1
  | n + 1, A => sZ (n + 1) fun i => sg i * A i 0 * det n (mn A i)
theorem det_congr : ∀ {n : Nat} {A B : Nat → Nat → Int}, (∀ i j, i < n → j < n → A i j = B i j) → det n A = det n B
  | 0, _, _, _ => rfl
  | n + 1, A, B, h => by
    rw [det, det]
    refine sZ_congr fun i hi => ?_
    rw [h i 0 hi (by omega), det_congr (A := mn A i) (B := mn B i) fun r c hr hc => ?_]
    unfold mn
    split
    · exact h _ _ (by omega) (by omega)
    · exact h _ _ (by omega) (by omega)
/-- row r put in the place of row a -/
def rw1 (A : Nat → Nat → Int) (a : Nat) (u : Nat → Int) : Nat → Nat → Int := fun i j => if i = a then u j else A i j
theorem mn_rw_same (A : Nat → Nat → Int) (a : Nat) (u : Nat → Int) : mn (rw1 A a u) a = mn A a := by
  funext r c
  unfold mn rw1
  by_cases h : r < a
  · rw [if_pos h, if_neg (by omega)]
  · rw [if_neg h, if_neg (by omega)]
theorem mn_rw_lt (A : Nat → Nat → Int) {a i : Nat} (u : Nat → Int) (h : a < i) : mn (rw1 A a u) i = rw1 (mn A i) a fun c => u (c + 1) := by
  funext r c
  unfold mn rw1
  dsimp only
  by_cases h1 : r < i
  · rw [if_pos h1]
  · rw [if_neg h1, if_neg (by omega), if_neg (by omega)]
theorem mn_rw_gt (A : Nat → Nat → Int) {a i : Nat} (u : Nat → Int) (h : i < a) : mn (rw1 A a u) i = rw1 (mn A i) (a - 1) fun c => u (c + 1) := by
  funext r c
  unfold mn rw1
  dsimp only
  by_cases h1 : r < i
  · rw [if_pos h1, if_neg (by omega), if_neg (by omega)]
  · rw [if_neg h1]
    by_cases h2 : r = a - 1
    · rw [if_pos (by omega), if_pos h2]
    · rw [if_neg (by omega), if_neg h2]
/-- a row that is a sum -/
theorem det_lin : ∀ {n : Nat} (A : Nat → Nat → Int) (a : Nat) (u v : Nat → Int) (c : Int), a < n → det n (rw1 A a fun j => u j + c * v j) = det n (rw1 A a u) + c * det n (rw1 A a v)
  | 0, _, _, _, _, _, h => by omega
  | n + 1, A, a, u, v, c, h => by
    rw [det, det, det, ← sZ_lin]
    refine sZ_congr fun i hi => ?_
    by_cases h1 : i = a
    · subst h1
      rw [mn_rw_same, mn_rw_same, mn_rw_same]
      have e : ∀ w : Nat → Int, rw1 A i w i 0 = w 0 := fun w => by
        unfold rw1
        rw [if_pos rfl]
      rw [e, e, e]
      generalize det n (mn A i) = d
      generalize sg i = s
      rw [Int.mul_add, Int.add_mul]
      have : s * (c * v 0) * d = c * (s * v 0 * d) := by
        rw [Int.mul_left_comm s c, Int.mul_assoc c]
      rw [this]
    · have e : ∀ w : Nat → Int, rw1 A a w i 0 = A i 0 := fun w => by
        unfold rw1
        rw [if_neg h1]
      rw [e, e, e]
      by_cases h2 : a < i
      · rw [mn_rw_lt A _ h2, mn_rw_lt A _ h2, mn_rw_lt A _ h2, det_lin (mn A i) a (fun j => u (j + 1)) (fun j => v (j + 1)) c (by omega)]
        generalize sg i * A i 0 = s
        rw [Int.mul_add, Int.mul_left_comm]
      · rw [mn_rw_gt A _ (by omega), mn_rw_gt A _ (by omega), mn_rw_gt A _ (by omega), det_lin (mn A i) (a - 1) (fun j => u (j + 1)) (fun j => v (j + 1)) c (by omega)]
        generalize sg i * A i 0 = s
        rw [Int.mul_add, Int.mul_left_comm]
/-- two rows beside one another alike -/
theorem det_adj : ∀ {n : Nat} {A : Nat → Nat → Int} {a : Nat}, a + 1 < n → (∀ j, A a j = A (a + 1) j) → det n A = 0
  | 0, _, _, h, _ => by omega
  | n + 1, A, a, h, e => by
    rw [det]
    refine sZ_two (a := a) (b := a + 1) (by omega) ?_ h fun i hi n1 n2 => ?_
    · have em : mn A a = mn A (a + 1) := by
        funext r c
        unfold mn
        by_cases h1 : r < a
        · rw [if_pos h1, if_pos (by omega)]
        · rw [if_neg h1]
          by_cases h2 : r = a
          · subst h2
            rw [if_pos (by omega)]
            exact (e _).symm
          · rw [if_neg (by omega)]
      rw [em, e 0, sg_succ]
      generalize A (a + 1) 0 = x
      generalize det n (mn A (a + 1)) = d
      rw [Int.neg_mul, Int.neg_mul]
      omega
    · have z : det n (mn A i) = 0 := by
        by_cases h1 : a + 1 < i
        · refine det_adj (a := a) (by omega) fun j => ?_
          unfold mn
          rw [if_pos (by omega), if_pos h1]
          exact e _
        · refine det_adj (a := a - 1) (by omega) fun j => ?_
          unfold mn
          rw [if_neg (by omega), if_neg (by omega)]
          have e1 : a - 1 + 1 = a := by omega
          rw [e1]
          exact e _
      rw [z, Int.mul_zero]
/-- two rows beside one another exchanged -/
def sw1 (A : Nat → Nat → Int) (a : Nat) : Nat → Nat → Int := fun i j => if i = a then A (a + 1) j else if i = a + 1 then A a j else A i j
theorem det_swap {n : Nat} {A : Nat → Nat → Int} {a : Nat} (h : a + 1 < n) : det n (sw1 A a) = - det n A := by
  -- rows u, v at a, a + 1
  let R : (Nat → Int) → (Nat → Int) → Nat → Nat → Int := fun u v => rw1 (rw1 A a u) (a + 1) v
  have same : ∀ u, det n (R u u) = 0 := fun u => det_adj (a := a) h fun j => by
    show rw1 (rw1 A a u) (a + 1) u a j = rw1 (rw1 A a u) (a + 1) u (a + 1) j
    unfold rw1
    rw [if_neg (by omega), if_pos rfl, if_pos rfl]
  have lin2 : ∀ u v w, det n (R u fun j => v j + 1 * w j) = det n (R u v) + 1 * det n (R u w) := fun u v w => det_lin (rw1 A a u) (a + 1) v w 1 (by omega)
  have comm : ∀ u v, R u v = rw1 (rw1 A (a + 1) v) a u := fun u v => by
    funext i j
    show rw1 (rw1 A a u) (a + 1) v i j = _
    unfold rw1
    by_cases h1 : i = a
    · rw [if_neg (by omega), if_pos h1, if_pos h1]
    · rw [if_neg h1, if_neg h1]
  have lin1 : ∀ u v w, det n (R (fun j => u j + 1 * v j) w) = det n (R u w) + 1 * det n (R v w) := fun u v w => by
    rw [comm, comm, comm]
    exact det_lin (rw1 A (a + 1) w) a u v 1 (by omega)
  have e1 : sw1 A a = R (A (a + 1)) (A a) := by
    funext i j
    show _ = rw1 (rw1 A a (A (a + 1))) (a + 1) (A a) i j
    unfold rw1 sw1
    by_cases h1 : i = a
    · rw [if_pos h1, if_neg (by omega), if_pos h1]
    · rw [if_neg h1, if_neg h1]
  have e2 : A = R (A a) (A (a + 1)) := by
    funext i j
    show _ = rw1 (rw1 A a (A a)) (a + 1) (A (a + 1)) i j
    unfold rw1
    by_cases h2 : i = a + 1
    · rw [if_pos h2, h2]
    · rw [if_neg h2]
      by_cases h1 : i = a
      · rw [if_pos h1, h1]
      · rw [if_neg h1]
  have all := same fun j => A a j + 1 * A (a + 1) j
  rw [lin1, lin2, lin2, same (A a), same (A (a + 1))] at all
  have e2' := congrArg (det n) e2
  rw [e1]
  omega
/-- any two rows alike -/
theorem det_alike {n : Nat} : ∀ (d : Nat) {A : Nat → Nat → Int} {a : Nat}, a + 1 + d < n → (∀ j, A a j = A (a + 1 + d) j) → det n A = 0
  | 0, A, a, h, e => det_adj h e
  | d + 1, A, a, h, e => by
    have z := det_alike (n := n) d (A := sw1 A (a + 1 + d)) (a := a) (by omega) fun j => by
      unfold sw1
      rw [if_neg (by omega), if_neg (by omega), if_pos rfl]
      exact e j
    have s := det_swap (n := n) (A := A) (a := a + 1 + d) (by omega)
    omega
/-- a times one row less another row times a number: times that -/
theorem det_op {n : Nat} {A : Nat → Nat → Int} {t : Nat} (p c : Int) (h0 : 0 < t) (h : t < n) : det n (rw1 A t fun j => p * A t j - c * A 0 j) = p * det n A := by
  have e1 : (fun j => p * A t j - c * A 0 j) = fun j => (fun j => p * A t j) j + (-c) * (A 0) j := by
    funext j
    show p * A t j - c * A 0 j = p * A t j + (-c) * A 0 j
    rw [Int.neg_mul]
    omega
  have e2 : (fun j => p * A t j) = fun j => (fun _ => (0 : Int)) j + p * (A t) j := by
    funext j
    show p * A t j = 0 + p * A t j
    omega
  have z0 : det n (rw1 A t fun _ => 0) = 0 := by
    have := det_lin A t (fun _ => 0) (fun _ => 0) 1 h
    have e : (fun _ : Nat => (0 : Int) + 1 * 0) = fun _ => 0 := by
      funext j
      rfl
    rw [e] at this
    omega
  have z1 : det n (rw1 A t (A 0)) = 0 := det_alike (n := n) (t - 1) (a := 0) (by omega) fun j => by
    have et : 0 + 1 + (t - 1) = t := by omega
    rw [et]
    unfold rw1
    rw [if_neg (by omega), if_pos rfl]
  have s : rw1 A t (A t) = A := by
    funext i j
    unfold rw1
    by_cases c : i = t
    · rw [if_pos c, c]
    · rw [if_neg c]
  rw [e1, det_lin A t _ _ _ h, z1, e2, det_lin A t _ _ _ h, z0, s]
  omega
/-- the first row and column left out -/
def chio (A : Nat → Nat → Int) : Nat → Nat → Int := fun i j => A 0 0 * A (i + 1) (j + 1) - A (i + 1) 0 * A 0 (j + 1)
theorem det_chio (n : Nat) (A : Nat → Nat → Int) : A 0 0 ^ n * det (n + 1) A = A 0 0 * det n (chio A) := by
  let B : Nat → Nat → Nat → Int := fun t i j => if 0 < i ∧ i ≤ t then A 0 0 * A i j - A i 0 * A 0 j else A i j
  have step : ∀ t, t ≤ n → det (n + 1) (B t) = A 0 0 ^ t * det (n + 1) A := fun t => by
    induction t with
    | zero =>
      intro _
      have e : B 0 = A := by
        funext i j
        show (if 0 < i ∧ i ≤ 0 then _ else A i j) = A i j
        rw [if_neg (by omega)]
      rw [e, Int.pow_zero, Int.one_mul]
    | succ t ih =>
      intro h
      have e : B (t + 1) = rw1 (B t) (t + 1) fun j => A 0 0 * B t (t + 1) j - A (t + 1) 0 * B t 0 j := by
        funext i j
        show (if 0 < i ∧ i ≤ t + 1 then A 0 0 * A i j - A i 0 * A 0 j else A i j) = _
        unfold rw1
        have b1 : B t (t + 1) j = A (t + 1) j := if_neg (by omega)
        have b0 : B t 0 j = A 0 j := if_neg (by omega)
        by_cases c : i = t + 1
        · rw [if_pos (by omega), if_pos c]
          show _ = A 0 0 * B t (t + 1) j - A (t + 1) 0 * B t 0 j
          rw [b1, b0, c]
        · rw [if_neg c]
          show _ = (if 0 < i ∧ i ≤ t then A 0 0 * A i j - A i 0 * A 0 j else A i j)
          by_cases c2 : 0 < i ∧ i ≤ t
          · rw [if_pos (by omega), if_pos c2]
          · rw [if_neg (by omega), if_neg c2]
      rw [e, det_op (A := B t) (A 0 0) (A (t + 1) 0) (by omega) (by omega), ih (by omega), Int.pow_succ, Int.mul_comm (A 0 0 ^ t) (A 0 0), Int.mul_assoc]
  rw [← step n (Nat.le_refl n), det]
  have zero : ∀ i, i < n + 1 → i ≠ 0 → B n i 0 = 0 := fun i hi ne => by
    show (if 0 < i ∧ i ≤ n then A 0 0 * A i 0 - A i 0 * A 0 0 else A i 0) = 0
    rw [if_pos (by omega), Int.mul_comm]
    omega
  have b00 : B n 0 0 = A 0 0 := if_neg (by omega)
  have m0 : det n (mn (B n) 0) = det n (chio A) := det_congr fun i j hi hj => by
    have e1 : mn (B n) 0 i j = B n (i + 1) (j + 1) := by
      unfold mn
      rw [if_neg (by omega)]
    rw [e1]
    show (if 0 < i + 1 ∧ i + 1 ≤ n then A 0 0 * A (i + 1) (j + 1) - A (i + 1) 0 * A 0 (j + 1) else A (i + 1) (j + 1)) = _
    rw [if_pos (by omega)]
    rfl
  have one : ∀ {m : Nat} {f : Nat → Int}, (∀ i, i < m + 1 → i ≠ 0 → f i = 0) → sZ (m + 1) f = f 0 := fun {m f} => by
    induction m with
    | zero =>
      intro _
      simp [sZ]
    | succ m ih =>
      intro h
      rw [sZ, ih fun i hi => h i (by omega), h (m + 1) (by omega) (by omega)]
      omega
  rw [one fun i hi ne => by rw [zero i hi ne, Int.mul_zero, Int.zero_mul], b00, m0]
  show 1 * A 0 0 * _ = _
  rw [Int.one_mul]
end Bw
/-! Part 18. Bareiss: what is divided is divided without rest; what is left is the determinant. Plain mathematics. -/
namespace Bw
theorem det_scale (c : Int) : ∀ (n : Nat) (A : Nat → Nat → Int), det n (fun i j => c * A i j) = c ^ n * det n A
  | 0, _ => by simp [det]
  | n + 1, A => by
    rw [det, det, Int.pow_succ]
    have e : ∀ i, mn (fun i j => c * A i j) i = fun r d => c * mn A i r d := fun i => rfl
    have h : sZ (n + 1) (fun i => sg i * (c * A i 0) * det n (mn (fun i j => c * A i j) i)) = sZ (n + 1) (fun i => 0 + (c ^ n * c) * (sg i * A i 0 * det n (mn A i))) := sZ_congr fun i _ => by
      rw [e, det_scale c n (mn A i)]
      generalize det n (mn A i) = d
      generalize sg i = s
      generalize A i 0 = a
      generalize c ^ n = x
      grind
    rw [h, sZ_lin]
    have z : sZ (n + 1) (fun _ => (0 : Int)) = 0 := sZ_zero fun _ _ => rfl
    rw [z]
    omega
/-- what Bareiss' rule leaves after k rows, the first k rows and columns left out; by what it divides next -/
def bst (A : Nat → Nat → Int) : Nat → (Nat → Nat → Int) × Int
  | 0 => (A, 1)
  | k + 1 => (fun i j => chio (bst A k).1 i j / (bst A k).2, (bst A k).1 0 0)
def bb (A : Nat → Nat → Int) (k : Nat) : Nat → Nat → Int := (bst A k).1
def bq (A : Nat → Nat → Int) (k : Nat) : Int := (bst A k).2
theorem bq_succ (A : Nat → Nat → Int) (k : Nat) : bq A (k + 1) = bb A k 0 0 := rfl
theorem bb_succ (A : Nat → Nat → Int) (k i j : Nat) : bb A (k + 1) i j = chio (bb A k) i j / bq A k := rfl
/-- rows and columns chosen, the first k ones as they are -/
theorem bb_sel {A : Nat → Nat → Int} {r s : Nat → Nat} : ∀ {k : Nat}, (∀ i, i < k → r i = i ∧ s i = i) → (∀ i, k ≤ i → k ≤ r i ∧ k ≤ s i) →
    bq (fun i j => A (r i) (s j)) k = bq A k ∧ ∀ i j, bb (fun i j => A (r i) (s j)) k i j = bb A k (r (k + i) - k) (s (k + j) - k)
  | 0, _, _ => ⟨rfl, fun i j => by
    show A (r i) (s j) = A (r (0 + i) - 0) (s (0 + j) - 0)
    rw [Nat.zero_add, Nat.zero_add, Nat.sub_zero, Nat.sub_zero]⟩
  | k + 1, h1, h2 => by
    have g : ∀ i, k ≤ i → k ≤ r i ∧ k ≤ s i := fun i hi => by
      by_cases c : i = k
      · have := h1 k (by omega)
        rw [c]
        omega
      · have := h2 i (by omega)
        omega
    obtain ⟨ih1, ih2⟩ := bb_sel (A := A) (k := k) (fun i hi => h1 i (by omega)) g
    have rk := h1 k (by omega)
    have e0 : r (k + 0) - k = 0 ∧ s (k + 0) - k = 0 := by
      rw [Nat.add_zero]
      omega
    constructor
    · rw [bq_succ, bq_succ, ih2, e0.1, e0.2]
    · intro i j
      rw [bb_succ, bb_succ, ih1]
      congr 1
      unfold chio
      rw [ih2, ih2, ih2, ih2, e0.1, e0.2]
      have ei : k + (i + 1) = k + 1 + i := by omega
      have ej : k + (j + 1) = k + 1 + j := by omega
      rw [ei, ej]
      have hi := (h2 (k + 1 + i) (by omega)).1
      have hj := (h2 (k + 1 + j) (by omega)).2
      have f1 : r (k + 1 + i) - k = r (k + 1 + i) - (k + 1) + 1 := by omega
      have f2 : s (k + 1 + j) - k = s (k + 1 + j) - (k + 1) + 1 := by omega
      rw [f1, f2]
/-- one row and one column put in the place of the one at k -/
def pick1 (k i : Nat) : Nat → Nat := fun r => if r = k then k + i else r
theorem det_two (M : Nat → Nat → Int) : det 2 M = M 0 0 * M 1 1 - M 1 0 * M 0 1 := by
  simp [det, sZ, sg, mn]
  rw [Int.neg_mul]
  omega
theorem det_one (M : Nat → Nat → Int) : det 1 M = M 0 0 := by
  simp [det, sZ, sg]
/-- Bareiss: what is divided is divided without rest -/
theorem bareiss : ∀ (k : Nat) (A : Nat → Nat → Int), (∀ t, t < k → bb A t 0 0 ≠ 0) →
    (∀ m, det (m + 1) (bb A k) = bq A k ^ m * det (k + m + 1) A) ∧ ∀ i j, chio (bb A k) i j = bq A k * det (k + 2) fun a b => A (pick1 (k + 1) i a) (pick1 (k + 1) j b)
  | 0, A, _ => by
    refine ⟨fun m => ?_, fun i j => ?_⟩
    · show det (m + 1) A = 1 ^ m * det (0 + m + 1) A
      rw [Int.one_pow, Int.one_mul, Nat.zero_add]
    · show chio A i j = 1 * det 2 _
      rw [det_two, Int.one_mul]
      show A 0 0 * A (i + 1) (j + 1) - A (i + 1) 0 * A 0 (j + 1) = A 0 0 * A (1 + i) (1 + j) - A (1 + i) 0 * A 0 (1 + j)
      rw [Nat.add_comm 1 i, Nat.add_comm 1 j]
  | k + 1, A, h => by
    have first : ∀ A : Nat → Nat → Int, (∀ t, t < k + 1 → bb A t 0 0 ≠ 0) → ∀ m, det (m + 1) (bb A (k + 1)) = bq A (k + 1) ^ m * det (k + 1 + m + 1) A := fun A h m => by
      obtain ⟨ih1, ih2⟩ := bareiss k A fun t ht => h t (by omega)
      have q0 : bq A k ≠ 0 := by
        cases k with
        | zero => exact fun z => nomatch (show (1 : Int) = 0 from z)
        | succ k => exact h k (by omega)
      have p0 : bb A k 0 0 ≠ 0 := h k (by omega)
      have ex : ∀ i j, bb A (k + 1) i j = det (k + 2) fun a b => A (pick1 (k + 1) i a) (pick1 (k + 1) j b) := fun i j => by
        rw [bb_succ, ih2, Int.mul_ediv_cancel_left _ q0]
      have ch : chio (bb A k) = fun i j => bq A k * bb A (k + 1) i j := by
        funext i j
        rw [ih2, ex]
      have c1 := det_chio (m + 1) (bb A k)
      rw [ch, det_scale, ih1 (m + 1), Int.pow_succ, Int.mul_assoc, Int.mul_comm (bb A k 0 0 ^ m), Int.mul_assoc] at c1
      have c2 := Int.eq_of_mul_eq_mul_left p0 (a := bb A k 0 0) (b := bq A k ^ (m + 1) * det (k + (m + 1) + 1) A * bb A k 0 0 ^ m) (c := bq A k ^ (m + 1) * det (m + 1) (bb A (k + 1))) (by
        rw [← c1])
      rw [Int.mul_assoc] at c2
      have c3 := Int.eq_of_mul_eq_mul_left (a := bq A k ^ (m + 1)) (Int.pow_ne_zero q0) c2
      rw [← c3, bq_succ, Int.mul_comm, show k + (m + 1) + 1 = k + 1 + m + 1 by omega]
    refine ⟨first A h, fun i j => ?_⟩
    -- the next step, of rows and columns chosen
    have sel : ∀ t, t ≤ k + 1 → bq (fun a b => A (pick1 (k + 2) i a) (pick1 (k + 2) j b)) t = bq A t ∧ ∀ x y, bb (fun a b => A (pick1 (k + 2) i a) (pick1 (k + 2) j b)) t x y = bb A t (pick1 (k + 2) i (t + x) - t) (pick1 (k + 2) j (t + y) - t) := fun t ht => by
      refine bb_sel (A := A) (r := pick1 (k + 2) i) (s := pick1 (k + 2) j) (fun x hx => ?_) fun x hx => ?_
      · unfold pick1
        rw [if_neg (by omega), if_neg (by omega)]
        exact ⟨rfl, rfl⟩
      · unfold pick1
        constructor <;> split <;> omega
    have f2 := first (fun a b => A (pick1 (k + 2) i a) (pick1 (k + 2) j b)) (fun t ht => by
      rw [(sel t (by omega)).2]
      have e : pick1 (k + 2) i (t + 0) - t = 0 ∧ pick1 (k + 2) j (t + 0) - t = 0 := by
        unfold pick1
        rw [if_neg (by omega), if_neg (by omega)]
        omega
      rw [e.1, e.2]
      exact h t ht) 1
    obtain ⟨s1, s2⟩ := sel (k + 1) (Nat.le_refl _)
    rw [s1, Int.pow_succ, Int.pow_zero, Int.one_mul, det_two, s2, s2, s2, s2] at f2
    have e0 : ∀ i, pick1 (k + 2) i (k + 1 + 0) - (k + 1) = 0 := fun i => by
      unfold pick1
      rw [if_neg (by omega)]
      omega
    have e1 : ∀ i, pick1 (k + 2) i (k + 1 + 1) - (k + 1) = i + 1 := fun i => by
      unfold pick1
      rw [if_pos (by omega)]
      omega
    rw [e0, e0, e1, e1] at f2
    exact f2
end Bw
/-! Part 19. Determinants: rows and columns exchanged; columns as sums. Plain mathematics. -/
namespace Bw
def tr (A : Nat → Nat → Int) : Nat → Nat → Int := fun i j => A j i
theorem chio_tr (A : Nat → Nat → Int) : chio (tr A) = tr (chio A) := by
  funext i j
  show A 0 0 * A (j + 1) (i + 1) - A 0 (i + 1) * A (j + 1) 0 = A 0 0 * A (j + 1) (i + 1) - A (j + 1) 0 * A 0 (i + 1)
  rw [Int.mul_comm (A 0 (i + 1))]
/-- t in the corner -/
def crn (A : Nat → Nat → Int) (t : Int) : Nat → Nat → Int := fun i j => if i = 0 ∧ j = 0 then t else A i j
theorem crn_lin {n : Nat} (A : Nat → Nat → Int) (h : 0 < n) : ∃ d : Int, ∀ t, det n (crn A t) = det n (crn A 0) + t * d := by
  refine ⟨det n (rw1 A 0 fun j => if j = 0 then 1 else 0), fun t => ?_⟩
  have e : ∀ s, crn A s = rw1 A 0 fun j => if j = 0 then s else A 0 j := fun s => by
    funext i j
    unfold crn rw1
    by_cases c : i = 0
    · rw [if_pos c]
      by_cases d : j = 0
      · rw [if_pos ⟨c, d⟩]
        show s = if j = 0 then s else A 0 j
        rw [if_pos d]
      · rw [if_neg (fun z => d z.2), c]
        show A 0 j = if j = 0 then s else A 0 j
        rw [if_neg d]
    · rw [if_neg (fun z => c z.1), if_neg c]
  rw [e t, e 0, ← det_lin A 0 _ _ t h]
  congr 2
  funext j
  by_cases d : j = 0
  · rw [if_pos d, if_pos d, if_pos d]
    omega
  · rw [if_neg d, if_neg d, if_neg d]
    omega
theorem det_tr : ∀ (n : Nat) (A : Nat → Nat → Int), det n (tr A) = det n A
  | 0, _ => rfl
  | n + 1, A => by
    have big : ∀ B : Nat → Nat → Int, B 0 0 ≠ 0 → det (n + 1) (tr B) = det (n + 1) B := fun B h => by
      have c1 := det_chio n B
      have c2 := det_chio n (tr B)
      rw [chio_tr, det_tr n (chio B)] at c2
      have e : tr B 0 0 = B 0 0 := rfl
      rw [e, ← c1] at c2
      exact Int.eq_of_mul_eq_mul_left (Int.pow_ne_zero h) c2
    by_cases h : A 0 0 = 0
    · obtain ⟨d1, h1⟩ := crn_lin (n := n + 1) A (by omega)
      obtain ⟨d2, h2⟩ := crn_lin (n := n + 1) (tr A) (by omega)
      have e0 : crn A 0 = A := by
        funext i j
        unfold crn
        by_cases c : i = 0 ∧ j = 0
        · rw [if_pos c, c.1, c.2, h]
        · rw [if_neg c]
      have et : ∀ t, crn (tr A) t = tr (crn A t) := fun t => by
        funext i j
        unfold crn tr
        dsimp only
        by_cases c : i = 0 ∧ j = 0
        · rw [if_pos c, if_pos ⟨c.2, c.1⟩]
        · rw [if_neg c, if_neg (fun z => c ⟨z.2, z.1⟩)]
      have b1 := big (crn A 1) (by unfold crn; rw [if_pos ⟨rfl, rfl⟩]; decide)
      have b2 := big (crn A 2) (by unfold crn; rw [if_pos ⟨rfl, rfl⟩]; decide)
      rw [← et, h2 1, h1 1] at b1
      rw [← et, h2 2, h1 2] at b2
      rw [et, e0] at b1 b2
      omega
    · exact big A h
/-! ### the columns -/
/-- column c put in the place of column a -/
def cl1 (A : Nat → Nat → Int) (a : Nat) (u : Nat → Int) : Nat → Nat → Int := fun i j => if j = a then u i else A i j
theorem cl1_tr (A : Nat → Nat → Int) (a : Nat) (u : Nat → Int) : cl1 A a u = tr (rw1 (tr A) a u) := by
  funext i j
  rfl
theorem det_clin {n : Nat} (A : Nat → Nat → Int) (a : Nat) (u v : Nat → Int) (c : Int) (h : a < n) : det n (cl1 A a fun j => u j + c * v j) = det n (cl1 A a u) + c * det n (cl1 A a v) := by
  rw [cl1_tr, cl1_tr, cl1_tr, det_tr, det_tr, det_tr]
  exact det_lin (tr A) a u v c h
theorem det_calike {n : Nat} {A : Nat → Nat → Int} {a b : Nat} (hab : a < b) (h : b < n) (e : ∀ i, A i a = A i b) : det n A = 0 := by
  rw [← det_tr]
  refine det_alike (n := n) (b - a - 1) (A := tr A) (a := a) (by omega) fun j => ?_
  have eb : a + 1 + (b - a - 1) = b := by omega
  rw [eb]
  exact e j
/-- a column that is 0 -/
theorem det_czero {n : Nat} (A : Nat → Nat → Int) (a : Nat) (h : a < n) : det n (cl1 A a fun _ => 0) = 0 := by
  have := det_clin A a (fun _ => 0) (fun _ => 0) 1 h
  have e : (fun _ : Nat => (0 : Int) + 1 * 0) = fun _ => 0 := by
    funext j
    rfl
  rw [e] at this
  omega
/-- a column that is a sum of columns -/
theorem det_csum {n : Nat} (A : Nat → Nat → Int) (a : Nat) (h : a < n) (f : Nat → Nat → Int) (c : Nat → Int) : ∀ m, det n (cl1 A a fun i => sZ m fun k => c k * f k i) = sZ m fun k => c k * det n (cl1 A a fun i => f k i)
  | 0 => by
    show det n (cl1 A a fun _ => 0) = 0
    exact det_czero A a h
  | m + 1 => by
    have e : (fun i => sZ (m + 1) fun k => c k * f k i) = fun i => (fun i => sZ m fun k => c k * f k i) i + c m * (fun i => f m i) i := rfl
    rw [e, det_clin A a _ _ _ h, det_csum A a h f c m]
    rfl
end Bw
/-! Part 20. Squares whose rows are together 0: what is left without a row and its column; such squares' determinants are above 0. Plain mathematics. -/
namespace Bw
theorem sZ_one {f : Nat → Int} {a : Nat} : ∀ {n : Nat}, a < n → (∀ i, i < n → i ≠ a → f i = 0) → sZ n f = f a
  | 0, h, _ => by omega
  | n + 1, h, e => by
    rw [sZ]
    by_cases c : a = n
    · rw [sZ_zero fun i hi => e i (by omega) (by omega), c]
      omega
    · rw [sZ_one (by omega) fun i hi => e i (by omega), e n (by omega) (by omega)]
      omega
theorem sZ_add (f g : Nat → Int) (n : Nat) : sZ n (fun i => f i + g i) = sZ n f + sZ n g := by
  have := sZ_lin f g 1 n
  rw [show (fun i => f i + 1 * g i) = fun i => f i + g i from funext fun i => by omega] at this
  omega
theorem sZ_mul (c : Int) (f : Nat → Int) : ∀ n, sZ n (fun i => c * f i) = c * sZ n f
  | 0 => by simp [sZ]
  | n + 1 => by rw [sZ, sZ, sZ_mul c f n, Int.mul_add]
theorem sZ_pick2 {f : Nat → Int} {a b n : Nat} (ha : a < n) (hb : b < n) (ne : a ≠ b) (e : ∀ i, i < n → i ≠ a → i ≠ b → f i = 0) : sZ n f = f a + f b := by
  have h1 := sZ_one (f := fun i => if i = a then f a else 0) (a := a) ha fun i _ h => if_neg h
  have h2 := sZ_one (f := fun i => if i = b then f b else 0) (a := b) hb fun i _ h => if_neg h
  rw [if_pos rfl] at h1 h2
  rw [← h1, ← h2, ← sZ_add]
  refine sZ_congr fun i hi => ?_
  by_cases c : i = a
  · rw [if_pos c, if_neg (fun z => ne (c.symm.trans z)), c]
    omega
  · rw [if_neg c]
    by_cases d : i = b
    · rw [if_pos d, d]
      omega
    · rw [if_neg d, e i hi c d]
      rfl
theorem sZ_shift (f : Nat → Int) : ∀ n, sZ (n + 1) f = f 0 + sZ n fun i => f (i + 1)
  | 0 => by simp [sZ]
  | n + 1 => by
    rw [sZ, sZ_shift f n, sZ]
    omega
theorem sZ_le {f g : Nat → Int} : ∀ {n : Nat}, (∀ i, i < n → f i ≤ g i) → sZ n f ≤ sZ n g
  | 0, _ => Int.le_refl _
  | n + 1, h => by
    have h1 := sZ_le (f := f) (g := g) (n := n) fun i hi => h i (by omega)
    have h2 := h n (by omega)
    rw [sZ, sZ]
    omega
/-- the places but i -/
def sk (i r : Nat) : Nat := if r < i then r else r + 1
theorem sZ_skip (f : Nat → Int) (i : Nat) : ∀ n, i ≤ n → sZ (n + 1) f = f i + sZ n fun r => f (sk i r)
  | 0, h => by
    have : i = 0 := by omega
    subst this
    simp [sZ]
  | n + 1, h => by
    by_cases c : i = n + 1
    · rw [sZ, c, Int.add_comm]
      congr 1
      refine sZ_congr fun r hr => ?_
      unfold sk
      rw [if_pos (by omega)]
    · rw [sZ, sZ_skip f i n (by omega), sZ]
      have : sk i n = n + 1 := by
        unfold sk
        rw [if_neg (by omega)]
      rw [this]
      omega
/-! ### rows scaled -/
def pZ : Nat → (Nat → Int) → Int
  | 0, _ => 1
  | n + 1, f => pZ n f * f n
theorem det_rzero {n : Nat} (A : Nat → Nat → Int) (a : Nat) (h : a < n) : det n (rw1 A a fun _ => 0) = 0 := by
  have := det_lin A a (fun _ => 0) (fun _ => 0) 1 h
  have e : (fun _ : Nat => (0 : Int) + 1 * 0) = fun _ => 0 := by
    funext j
    rfl
  rw [e] at this
  omega
theorem det_row1 {n : Nat} (A : Nat → Nat → Int) (a : Nat) (c : Int) (u : Nat → Int) (h : a < n) : det n (rw1 A a fun j => c * u j) = c * det n (rw1 A a u) := by
  have := det_lin A a (fun _ => 0) u c h
  rw [det_rzero A a h] at this
  rw [show (fun j => c * u j) = fun j => 0 + c * u j from funext fun j => by omega, this]
  omega
theorem det_rows {n : Nat} (A : Nat → Nat → Int) (c : Nat → Int) : det n (fun i j => c i * A i j) = pZ n c * det n A := by
  have h : ∀ m, m ≤ n → det n (fun i j => if i < m then c i * A i j else A i j) = pZ m c * det n A := fun m => by
    induction m with
    | zero =>
      intro _
      show det n A = 1 * det n A
      omega
    | succ m ih =>
      intro hm
      have e1 : (fun i j => if i < m + 1 then c i * A i j else A i j) = rw1 (fun i j => if i < m then c i * A i j else A i j) m fun j => c m * A m j := by
        funext i j
        unfold rw1
        by_cases k : i = m
        · rw [if_pos (by omega), if_pos k, k]
        · rw [if_neg k]
          by_cases l : i < m
          · rw [if_pos (by omega)]
            exact (if_pos l).symm
          · rw [if_neg (by omega)]
            exact (if_neg l).symm
      have e2 : (fun i j => if i < m then c i * A i j else A i j) = rw1 (fun i j => if i < m then c i * A i j else A i j) m fun j => A m j := by
        funext i j
        unfold rw1
        by_cases k : i = m
        · rw [if_neg (by omega), if_pos k, k]
        · rw [if_neg k]
      rw [e1, det_row1 _ m _ _ (by omega), ← e2, ih (by omega), pZ, Int.mul_comm (pZ m c) (c m), Int.mul_assoc]
  rw [← h n (Nat.le_refl _)]
  refine det_congr fun i j hi _ => ?_
  rw [if_pos hi]
/-! ### columns exchanged -/
theorem cl1_self (A : Nat → Nat → Int) (a : Nat) : cl1 A a (fun i => A i a) = A := by
  funext i j
  unfold cl1
  by_cases c : j = a
  · rw [if_pos c, c]
  · rw [if_neg c]
theorem cl1_comm (A : Nat → Nat → Int) {a b : Nat} (h : a ≠ b) (u v : Nat → Int) : cl1 (cl1 A a u) b v = cl1 (cl1 A b v) a u := by
  funext i j
  unfold cl1
  by_cases c : j = b
  · rw [if_pos c, if_neg (fun z => h (z.symm.trans c)), if_pos c]
  · rw [if_neg c, if_neg c]
theorem det_cl2 {n : Nat} (A : Nat → Nat → Int) {a b : Nat} (ha : a < n) (hb : b < n) (h : a ≠ b) (u : Nat → Int) : det n (cl1 (cl1 A a u) b u) = 0 := by
  have e : ∀ i, cl1 (cl1 A a u) b u i a = cl1 (cl1 A a u) b u i b := fun i => by
    unfold cl1
    rw [if_neg h, if_pos rfl, if_pos rfl]
  by_cases c : a < b
  · exact det_calike c hb e
  · exact det_calike (by omega) ha fun i => (e i).symm
theorem det_cadd {n : Nat} (A : Nat → Nat → Int) (a : Nat) (u v : Nat → Int) (h : a < n) : det n (cl1 A a fun j => u j + v j) = det n (cl1 A a u) + det n (cl1 A a v) := by
  have := det_clin A a u v 1 h
  rw [show (fun j => u j + 1 * v j) = fun j => u j + v j from funext fun j => by omega] at this
  omega
theorem det_cswap {n : Nat} (A : Nat → Nat → Int) {a b : Nat} (ha : a < n) (hb : b < n) (h : a ≠ b) (u v : Nat → Int) : det n (cl1 (cl1 A a u) b v) = - det n (cl1 (cl1 A a v) b u) := by
  have h0 := det_cl2 A ha hb h fun j => u j + v j
  rw [det_cadd _ b _ _ hb, cl1_comm A h, cl1_comm A h, det_cadd _ a _ _ ha, det_cadd _ a _ _ ha, ← cl1_comm A h, ← cl1_comm A h, ← cl1_comm A h, ← cl1_comm A h, det_cl2 A ha hb h u, det_cl2 A ha hb h v] at h0
  omega
/-- any column of a square whose rows are together 0 -/
theorem det_cof {n : Nat} {L : Nat → Nat → Int} (hz : ∀ i, i < n → sZ n (L i) = 0) {a b : Nat} (ha : a < n) (hb : b < n) (u : Nat → Int) : det n (cl1 L a u) = det n (cl1 L b u) := by
  by_cases h : a = b
  · rw [h]
  · have h1 := det_csum (cl1 L b u) a ha (fun m i => L i m) (fun _ => 1) n
    have h2 : det n (cl1 (cl1 L b u) a fun i => sZ n fun k => 1 * L i k) = 0 := by
      rw [← det_czero (cl1 L b u) a ha]
      refine det_congr fun i j hi _ => ?_
      show (if j = a then _ else _) = if j = a then _ else _
      by_cases c : j = a
      · rw [if_pos c, if_pos c, ← hz i hi]
        exact sZ_congr fun k _ => by omega
      · rw [if_neg c, if_neg c]
    rw [h2] at h1
    have h3 := sZ_pick2 (f := fun k => 1 * det n (cl1 (cl1 L b u) a fun i => L i k)) (n := n) ha hb h fun m hm n1 n2 => by
      have e : ∀ i, cl1 (cl1 L b u) a (fun i => L i m) i m = cl1 (cl1 L b u) a (fun i => L i m) i a := fun i => by
        unfold cl1
        rw [if_neg n1, if_neg n2, if_pos rfl]
      have : det n (cl1 (cl1 L b u) a fun i => L i m) = 0 := by
        by_cases c : m < a
        · exact det_calike c ha e
        · exact det_calike (by omega) hm fun i => (e i).symm
      show 1 * _ = 0
      rw [this]
      rfl
    rw [← h1] at h3
    have e1 : cl1 (cl1 L b u) a (fun i => L i a) = cl1 L b u := by
      rw [← cl1_comm L h, cl1_self]
    have e2 : det n (cl1 (cl1 L b u) a fun i => L i b) = - det n (cl1 L a u) := by
      rw [← cl1_comm L h, det_cswap L ha hb h, cl1_comm L h, cl1_self]
    rw [e1, e2] at h3
    omega
end Bw
/-! Part 21. A square without row and column i; what such squares of rows together 0 are times the rows; squares whose determinants are above 0, by Bareiss' pivots. Plain mathematics. -/
namespace Bw
/-- without row i and column i -/
def no (i : Nat) (A : Nat → Nat → Int) : Nat → Nat → Int := fun r c => A (sk i r) (sk i c)
def unt (i : Nat) : Nat → Int := fun r => if r = i then 1 else 0
theorem det_unt (n : Nat) : ∀ (i : Nat) (A : Nat → Nat → Int), i < n + 1 → det (n + 1) (cl1 A i (unt i)) = det n (no i A)
  | 0, A, _ => by
    rw [det, sZ_one (a := 0) (by omega) fun r _ h => by
      show sg r * (if 0 = 0 then unt 0 r else A r 0) * _ = 0
      rw [if_pos rfl]
      unfold unt
      rw [if_neg h, Int.mul_zero, Int.zero_mul]]
    have e1 : cl1 A 0 (unt 0) 0 0 = 1 := rfl
    have e2 : sg 0 = 1 := rfl
    have e3 : mn (cl1 A 0 (unt 0)) 0 = no 0 A := by
      funext r c
      unfold mn no sk cl1
      rw [if_neg (by omega), if_neg (by omega), if_neg (by omega)]
    rw [e1, e2, e3]
    omega
  | i + 1, A, h => by
    have ih := det_unt n i (tr (sw1 (tr (sw1 A i)) i)) (by omega)
    have e1 : cl1 (tr (sw1 (tr (sw1 A i)) i)) i (unt i) = tr (sw1 (tr (sw1 (cl1 A (i + 1) (unt (i + 1))) i)) i) := by
      funext r c
      unfold cl1 tr sw1 unt
      dsimp only
      grind
    have e2 : no i (tr (sw1 (tr (sw1 A i)) i)) = no (i + 1) A := by
      funext r c
      unfold no tr sw1 sk
      dsimp only
      grind
    rw [e1, e2, det_tr, det_swap (by omega), det_tr, det_swap (by omega)] at ih
    omega
/-- the determinants without each row and its column, times the rows -/
theorem det_rest {n : Nat} {L : Nat → Nat → Int} (hz : ∀ i, i < n + 1 → sZ (n + 1) (L i) = 0) {j : Nat} (hj : j < n + 1) : sZ (n + 1) (fun i => L i j * det n (no i L)) = 0 := by
  have main : ∀ k, k < n + 1 → sZ (n + 1) (fun i => L i j * det n (no i L)) = det (n + 1) (cl1 L k fun r => L r j) := fun k hk => by
    have h1 := det_csum L k hk (fun i r => unt i r) (fun i => L i j) (n + 1)
    have h2 : det (n + 1) (cl1 L k fun r => sZ (n + 1) fun i => L i j * unt i r) = det (n + 1) (cl1 L k fun r => L r j) := by
      refine det_congr fun r c hr _ => ?_
      show (if c = k then _ else _) = if c = k then _ else _
      by_cases e : c = k
      · rw [if_pos e, if_pos e]
        show sZ (n + 1) (fun i => L i j * unt i r) = L r j
        rw [sZ_one (a := r) hr fun i _ ne => by
          show L i j * (if r = i then 1 else 0) = 0
          rw [if_neg (fun z => ne z.symm), Int.mul_zero]]
        show L r j * (if r = r then 1 else 0) = L r j
        rw [if_pos rfl, Int.mul_one]
      · rw [if_neg e, if_neg e]
    rw [← h2, h1]
    refine sZ_congr fun i hi => ?_
    rw [← det_unt n i L hi, det_cof hz hi hk (unt i)]
  cases n with
  | zero =>
    have : j = 0 := by omega
    subst this
    have h0 := hz 0 (by omega)
    simp only [sZ] at h0 ⊢
    rw [show L 0 0 = 0 by omega]
    omega
  | succ n =>
    by_cases c : j = 0
    · rw [main 1 (by omega)]
      refine det_calike (a := 0) (b := 1) (by omega) (by omega) fun i => ?_
      unfold cl1
      rw [if_neg (by omega), if_pos rfl, c]
    · rw [main 0 (by omega)]
      refine det_calike (a := 0) (b := j) (by omega) hj fun i => ?_
      unfold cl1
      rw [if_pos rfl, if_neg c]
/-! ### squares of which each row leads out -/
inductive Out (m : Nat) (A : Nat → Nat → Int) : Nat → Prop
  | done {i : Nat} (h : i < m) (s : 0 < sZ m (A i)) : Out m A i
  | step {i j : Nat} (hi : i < m) (hj : j < m) (ne : i ≠ j) (s : A i j < 0) (o : Out m A j) : Out m A i
structure Gd (m : Nat) (A : Nat → Nat → Int) : Prop where
  off : ∀ i j, i < m → j < m → i ≠ j → A i j ≤ 0
  sum : ∀ i, i < m → 0 ≤ sZ m (A i)
  out : ∀ i, i < m → Out m A i
theorem Gd.corner {m : Nat} {A : Nat → Nat → Int} (g : Gd (m + 1) A) : 0 < A 0 0 := by
  have s0 := g.sum 0 (by omega)
  rw [sZ_shift] at s0
  have up : ∀ f : Nat → Int, (∀ i, i < m → f i ≤ 0) → sZ m f ≤ 0 := fun f h => by
    have := sZ_le (f := f) (g := fun _ => 0) (n := m) h
    rw [sZ_zero fun _ _ => rfl] at this
    exact this
  have le0 := up (fun i => A 0 (i + 1)) fun i hi => g.off 0 (i + 1) (by omega) (by omega) (by omega)
  cases g.out 0 (by omega) with
  | done h s =>
    rw [sZ_shift] at s
    omega
  | step hi hj ne s o =>
    rename_i j
    have : sZ m (fun i => A 0 (i + 1)) ≤ A 0 j := by
      have h1 := sZ_le (f := fun i => A 0 (i + 1)) (g := fun i => if i = j - 1 then A 0 j else 0) (n := m) fun i hi => by
        by_cases c : i = j - 1
        · rw [if_pos c, show i + 1 = j by omega]
          exact Int.le_refl _
        · rw [if_neg c]
          exact g.off 0 (i + 1) (by omega) (by omega) (by omega)
      rw [sZ_one (a := j - 1) (by omega) fun i _ h => if_neg h, if_pos rfl] at h1
      exact h1
    omega
theorem chio_sum (m : Nat) (A : Nat → Nat → Int) (i : Nat) : sZ m (chio A i) = A 0 0 * sZ (m + 1) (A (i + 1)) - A (i + 1) 0 * sZ (m + 1) (A 0) := by
  rw [sZ_shift, sZ_shift]
  have e : chio A i = fun j => A 0 0 * A (i + 1) (j + 1) + (- A (i + 1) 0) * A 0 (j + 1) := by
    funext j
    unfold chio
    rw [Int.neg_mul]
    omega
  rw [e, sZ_lin, sZ_mul]
  grind
theorem Gd.chio {m : Nat} {A : Nat → Nat → Int} (g : Gd (m + 1) A) : Gd m (chio A) := by
  have p := g.corner
  have neg : ∀ i, i < m → A (i + 1) 0 ≤ 0 := fun i hi => g.off _ _ (by omega) (by omega) (by omega)
  have neg0 : ∀ i, i < m → A 0 (i + 1) ≤ 0 := fun i hi => g.off _ _ (by omega) (by omega) (by omega)
  have up : ∀ {i j}, i < m → j < m → Bw.chio A i j ≤ A 0 0 * A (i + 1) (j + 1) := fun {i j} hi hj => by
    have := Int.mul_nonneg_of_nonpos_of_nonpos (neg i hi) (neg0 j hj)
    unfold Bw.chio
    omega
  have s0 := g.sum 0 (by omega)
  have low : ∀ i, i < m → A 0 0 * sZ (m + 1) (A (i + 1)) ≤ sZ m (Bw.chio A i) := fun i hi => by
    have := Int.mul_nonpos_of_nonpos_of_nonneg (neg i hi) s0
    rw [chio_sum]
    omega
  have o : ∀ i, Out (m + 1) A i → (∀ q, i = q + 1 → Out m (Bw.chio A) q) ∧ (i = 0 → ∀ q, q < m → A (q + 1) 0 < 0 → Out m (Bw.chio A) q) := fun i h => by
    induction h with
    | @done i h s =>
      refine ⟨fun q e => ?_, fun e q hq ne => ?_⟩
      · subst e
        have h1 := low q (by omega)
        have h2 := Int.mul_pos p s
        exact .done (by omega) (by omega)
      · subst e
        have h1 := Int.mul_nonneg (Int.le_of_lt p) (g.sum (q + 1) (by omega))
        have h2 := Int.mul_neg_of_neg_of_pos ne s
        refine .done hq ?_
        rw [chio_sum]
        omega
    | @step i j hi hj ne s o ih =>
      refine ⟨fun q e => ?_, fun e q hq n0 => ?_⟩
      · subst e
        cases j with
        | zero => exact ih.2 rfl q (by omega) s
        | succ t =>
          have h1 := up (i := q) (j := t) (by omega) (by omega)
          have h2 := Int.mul_neg_of_pos_of_neg p s
          exact .step (by omega) (by omega) (by omega) (by omega) (ih.1 t rfl)
      · subst e
        cases j with
        | zero => exact absurd rfl ne
        | succ t =>
          by_cases c : q = t
          · subst c
            exact ih.1 q rfl
          · have h1 := Int.mul_pos_of_neg_of_neg n0 s
            have h2 := Int.mul_nonpos_of_nonneg_of_nonpos (Int.le_of_lt p) (g.off (q + 1) (t + 1) (by omega) (by omega) (by omega))
            refine .step hq (by omega) c ?_ (ih.1 t rfl)
            unfold Bw.chio
            omega
  refine ⟨fun i j hi hj ne => ?_, fun i hi => ?_, fun i hi => (o (i + 1) (g.out (i + 1) (by omega))).1 i rfl⟩
  · have h1 := up hi hj
    have h2 := Int.mul_nonpos_of_nonneg_of_nonpos (Int.le_of_lt p) (g.off (i + 1) (j + 1) (by omega) (by omega) (by omega))
    omega
  · have h1 := low i hi
    have h2 := Int.mul_nonneg (Int.le_of_lt p) (g.sum (i + 1) (by omega))
    omega
theorem Gd.det : ∀ {m : Nat} {A : Nat → Nat → Int}, Gd m A → 0 < det m A
  | 0, _, _ => by
    show (0 : Int) < 1
    decide
  | m + 1, A, g => by
    have h1 := det_chio m A
    have h2 := Int.mul_pos g.corner (Gd.det g.chio)
    rw [← h1] at h2
    exact Int.pos_of_mul_pos_right h2 (Int.pow_pos g.corner)
end Bw
/-! Part 22. A square of numbers of which each place leads to each: what goes out less what goes over; its trees' sums; what rests is one but for a factor; Bareiss' pivots are above 0. Plain mathematics. -/
namespace Bw
/-- what goes out, less the square -/
def lap (n : Nat) (M : Nat → Nat → Nat) : Nat → Nat → Int := fun i j => (if i = j then ((sN n (M i) : Nat) : Int) else 0) - (M i j : Int)
theorem sZ_nat (f : Nat → Nat) : ∀ n, sZ n (fun i => (f i : Int)) = ((sN n f : Nat) : Int)
  | 0 => rfl
  | n + 1 => by
    rw [sZ, sZ_nat f n, sN]
    omega
theorem lap_zero (n : Nat) (M : Nat → Nat → Nat) : ∀ i, i < n → sZ n (lap n M i) = 0 := fun i hi => by
  have e : lap n M i = fun j => (if i = j then ((sN n (M i) : Nat) : Int) else 0) + (-1) * (M i j : Int) := by
    funext j
    unfold lap
    omega
  rw [e, sZ_lin, sZ_nat, sZ_one (a := i) hi fun j _ ne => if_neg fun z => ne z.symm, if_pos rfl]
  omega
theorem lap_off {n : Nat} {M : Nat → Nat → Nat} {i j : Nat} (h : i ≠ j) : lap n M i j = - (M i j : Int) := by
  unfold lap
  rw [if_neg h]
  omega
theorem sk_ne (i r : Nat) : sk i r ≠ i := by
  unfold sk
  split <;> omega
theorem sk_lt {i r n : Nat} (h : r < n) : sk i r < n + 1 := by
  unfold sk
  split <;> omega
theorem sk_inj {i r s : Nat} (h : sk i r = sk i s) : r = s := by
  unfold sk at h
  grind
theorem sk_of {i a n : Nat} (h : a < n + 1) (hi : i < n + 1) (ne : a ≠ i) : ∃ r, r < n ∧ sk i r = a := by
  by_cases c : a < i
  · exact ⟨a, by omega, if_pos c⟩
  · exact ⟨a - 1, by omega, by unfold sk; rw [if_neg (by omega)]; omega⟩
theorem no_sum {n : Nat} {M : Nat → Nat → Nat} {i r : Nat} (hi : i < n + 1) (hr : r < n) : sZ n (no i (lap (n + 1) M) r) = (M (sk i r) i : Int) := by
  have h1 := lap_zero (n + 1) M (sk i r) (sk_lt hr)
  rw [sZ_skip _ i n (by omega), lap_off (sk_ne i r)] at h1
  show sZ n (fun c => lap (n + 1) M (sk i r) (sk i c)) = _
  omega
theorem no_good {n : Nat} {M : Nat → Nat → Nat} (h : StrN (n + 1) M) {i : Nat} (hi : i < n + 1) : Gd n (no i (lap (n + 1) M)) := by
  have out : ∀ a, Reach (fun x y => EdN (n + 1) M y x) i a → ∀ r, r < n → sk i r = a → Out n (no i (lap (n + 1) M)) r := fun a ra => by
    induction ra with
    | refl =>
      intro r _ e
      exact absurd e (sk_ne i r)
    | step rb e ih =>
      rename_i b c
      intro r hr er
      obtain ⟨e1, e2, e3⟩ := e
      by_cases z : b = i
      · refine .done hr ?_
        rw [no_sum hi hr, er]
        rw [z] at e3
        omega
      · obtain ⟨s, hs, es⟩ := sk_of e2 hi z
        by_cases q : r = s
        · rw [q]
          exact ih s hs es
        · refine .step hr hs q ?_ (ih s hs es)
          show lap (n + 1) M (sk i r) (sk i s) < 0
          rw [lap_off fun z => q (sk_inj z), er, es]
          omega
  refine ⟨fun r s hr hs ne => ?_, fun r hr => ?_, fun r hr => ?_⟩
  · show lap (n + 1) M (sk i r) (sk i s) ≤ 0
    rw [lap_off fun z => ne (sk_inj z)]
    omega
  · rw [no_sum hi hr]
    omega
  · refine out (sk i r) ?_ r hr rfl
    have h1 := h (sk i r) i (sk_lt hr) hi
    exact Reach.back (E := fun x y => EdN (n + 1) M y x) h1
/-- the trees' sum into i, times what goes out of the others -/
def wZ (n : Nat) (M : Nat → Nat → Nat) (i : Nat) : Int := det (n - 1) (no i (lap n M))
theorem wZ_pos {n : Nat} {M : Nat → Nat → Nat} (h : StrN n M) {i : Nat} (hi : i < n) : 0 < wZ n M i := by
  obtain ⟨k, rfl⟩ : ∃ k, n = k + 1 := ⟨n - 1, by omega⟩
  exact (no_good h hi).det
theorem wZ_rest {n : Nat} {M : Nat → Nat → Nat} {j : Nat} (hj : j < n) : sZ n (fun i => wZ n M i * lap n M i j) = 0 := by
  obtain ⟨k, rfl⟩ : ∃ k, n = k + 1 := ⟨n - 1, by omega⟩
  rw [← det_rest (lap_zero (k + 1) M) hj]
  exact sZ_congr fun i _ => Int.mul_comm _ _
/-- numbers by which what comes is what goes, the other way told -/
theorem sol_rest {n : Nat} {M : Nat → Nat → Nat} {j : Nat} (hj : j < n) : sZ n (fun i => (sol n M i : Int) * lap n M i j) = 0 := by
  have h1 := sol_bal (k := n) M (by omega) j hj
  have e : (fun i => (sol n M i : Int) * lap n M i j) = fun i => (if j = i then (sol n M j : Int) * ((sN n (M j) : Nat) : Int) else 0) + (-1) * ((sol n M i * M i j : Nat) : Int) := by
    funext i
    unfold lap
    by_cases c : i = j
    · rw [if_pos c, if_pos c.symm, c, Int.mul_sub, Int.natCast_mul]
      omega
    · rw [if_neg c, if_neg fun z => c z.symm, Int.mul_sub, Int.natCast_mul]
      omega
  rw [e, sZ_lin, sZ_nat, h1, sZ_one (a := j) hj fun i _ ne => if_neg fun z => ne z.symm, if_pos rfl, Int.natCast_mul]
  omega
theorem sZ_le0 {f : Nat → Int} : ∀ {n : Nat}, (∀ i, i < n → f i ≤ 0) → sZ n f = 0 → ∀ i, i < n → f i = 0
  | 0, _, _, i, h => by omega
  | n + 1, h, s, i, hi => by
    have up := sZ_le (f := f) (g := fun _ => 0) (n := n) fun i hi => h i (by omega)
    rw [sZ_zero fun _ _ => rfl] at up
    have hn := h n (by omega)
    rw [sZ] at s
    by_cases c : i = n
    · rw [c]
      omega
    · exact sZ_le0 (n := n) (fun i hi => h i (by omega)) (by omega) i (by omega)
/-- the least of quotients -/
theorem least_at (x y : Nat → Int) : ∀ n, (∀ i, i < n + 1 → 0 < y i) → ∃ k, k < n + 1 ∧ ∀ i, i < n + 1 → x k * y i ≤ x i * y k
  | 0, _ => ⟨0, by omega, fun i hi => by
    have : i = 0 := by omega
    rw [this]
    exact Int.le_refl _⟩
  | n + 1, h => by
    obtain ⟨k, hk, hl⟩ := least_at x y n fun i hi => h i (by omega)
    by_cases c : x k * y (n + 1) ≤ x (n + 1) * y k
    · refine ⟨k, by omega, fun i hi => ?_⟩
      by_cases d : i = n + 1
      · rw [d]
        exact c
      · exact hl i (by omega)
    · refine ⟨n + 1, by omega, fun i hi => ?_⟩
      by_cases d : i = n + 1
      · rw [d]
        exact Int.le_refl _
      · have h1 := hl i (by omega)
        have h2 := h i (by omega)
        have h3 := h (n + 1) (by omega)
        have h4 := h k (by omega)
        -- x' y_k < x_k y', x_k y_i ≤ x_i y_k
        have a1 : x (n + 1) * y k * y i ≤ x k * y (n + 1) * y i := Int.mul_le_mul_of_nonneg_right (by omega) (by omega)
        have a2 : x k * y i * y (n + 1) ≤ x i * y k * y (n + 1) := Int.mul_le_mul_of_nonneg_right h1 (by omega)
        have a3 : (x (n + 1) * y i) * y k ≤ (x i * y (n + 1)) * y k := by grind
        exact Int.le_of_mul_le_mul_right a3 h4
theorem rest_one {n : Nat} {M : Nat → Nat → Nat} (h : StrN n M) {x y : Nat → Int} (hy : ∀ i, i < n → 0 < y i) (rx : ∀ j, j < n → sZ n (fun i => x i * lap n M i j) = 0) (ry : ∀ j, j < n → sZ n (fun i => y i * lap n M i j) = 0) {i j : Nat} (hi : i < n) (hj : j < n) : x i * y j = x j * y i := by
  obtain ⟨m, rfl⟩ : ∃ m, n = m + 1 := ⟨n - 1, by omega⟩
  obtain ⟨k, hk, hl⟩ := least_at x y m hy
  have z0 : ∀ a, Reach (fun p q => EdN (m + 1) M q p) k a → a < m + 1 ∧ x a * y k = x k * y a := fun a ra => by
    induction ra with
    | refl => exact ⟨hk, rfl⟩
    | step rb e ih =>
      rename_i b c
      obtain ⟨e1, e2, e3⟩ := e
      obtain ⟨hb, eb⟩ := ih
      refine ⟨e1, ?_⟩
      by_cases q : c = b
      · rw [q]
        exact eb
      · have s : sZ (m + 1) (fun i => (x i * y k - x k * y i) * lap (m + 1) M i b) = 0 := by
          have e : (fun i => (x i * y k - x k * y i) * lap (m + 1) M i b) = fun i => y k * (x i * lap (m + 1) M i b) + (- x k) * (y i * lap (m + 1) M i b) := by
            funext i
            grind
          rw [e, sZ_lin, sZ_mul, rx b hb, ry b hb]
          omega
        have t := sZ_le0 (fun i hi => by
          by_cases q : i = b
          · rw [q, eb]
            omega
          · have h1 := hl i hi
            rw [lap_off q]
            refine Int.mul_nonpos_of_nonneg_of_nonpos (by omega) (by omega)) s c e1
        rw [lap_off q] at t
        rcases Int.mul_eq_zero.mp t with t | t
        · omega
        · omega
  have all : ∀ a, a < m + 1 → x a * y k = x k * y a := fun a ha => (z0 a (Reach.back (E := fun p q => EdN (m + 1) M q p) (h a k ha hk))).2
  have e1 := all i hi
  have e2 := all j hj
  have p := hy k hk
  refine Int.eq_of_mul_eq_mul_right (a := y k) (by omega) ?_
  grind
/-- the trees' sums are the law's own numbers, but for a factor -/
theorem wZ_sol {n : Nat} {M : Nat → Nat → Nat} (h : StrN n M) {i j : Nat} (hi : i < n) (hj : j < n) : wZ n M i * sol n M j = wZ n M j * sol n M i :=
  rest_one h (x := wZ n M) (y := fun i => (sol n M i : Int)) (fun i hi => by
    have := sol_pos h i hi
    show (0 : Int) < (sol n M i : Int)
    omega) (fun j hj => wZ_rest hj) (fun j hj => sol_rest hj) hi hj
/-! ### Bareiss' pivots -/
theorem Gd.unscale {m : Nat} {B : Nat → Nat → Int} {q : Int} (hq : 0 < q) (g : Gd m fun i j => q * B i j) : Gd m B := by
  have s : ∀ i, sZ m (fun j => q * B i j) = q * sZ m (B i) := fun i => sZ_mul q (B i) m
  refine ⟨fun i j hi hj ne => ?_, fun i hi => ?_, fun i hi => ?_⟩
  · have h1 := g.off i j hi hj ne
    by_cases c : B i j ≤ 0
    · exact c
    · have := Int.mul_pos hq (show 0 < B i j by omega)
      omega
  · have h1 := g.sum i hi
    rw [s] at h1
    by_cases c : 0 ≤ sZ m (B i)
    · exact c
    · have := Int.mul_neg_of_pos_of_neg hq (show sZ m (B i) < 0 by omega)
      omega
  · have o := g.out i hi
    induction o with
    | @done a h t =>
      rw [s] at t
      refine .done h ?_
      by_cases c : 0 < sZ m (B a)
      · exact c
      · have := Int.mul_nonpos_of_nonneg_of_nonpos (Int.le_of_lt hq) (Int.not_lt.mp c)
        omega
    | @step a b h1 h2 ne t o ih =>
      refine .step h1 h2 ne ?_ (ih h2)
      by_cases c : 0 ≤ B a b
      · have := Int.mul_nonneg (Int.le_of_lt hq) c
        omega
      · omega
theorem Gd.pivots {m : Nat} {A : Nat → Nat → Int} (g : Gd m A) : ∀ t, t ≤ m → Gd (m - t) (bb A t) ∧ 0 < bq A t
  | 0, _ => ⟨g, by
    show (0 : Int) < 1
    decide⟩
  | t + 1, ht => by
    have all : ∀ s, s ≤ t → Gd (m - s) (bb A s) ∧ 0 < bq A s := fun s hs => g.pivots s (by omega)
    have piv : ∀ s, s ≤ t → 0 < bb A s 0 0 := fun s hs => by
      have h1 := (all s hs).1
      have e : m - s = (m - s - 1) + 1 := by omega
      rw [e] at h1
      exact h1.corner
    have ex := (bareiss t A fun s hs => by
      have := piv s (by omega)
      omega).2
    obtain ⟨h1, h2⟩ := all t (Nat.le_refl _)
    have e : m - t = (m - (t + 1)) + 1 := by omega
    rw [e] at h1
    refine ⟨Gd.unscale h2 ?_, piv t (Nat.le_refl _)⟩
    have c : Bw.chio (bb A t) = fun i j => bq A t * bb A (t + 1) i j := by
      funext i j
      rw [bb_succ, ex, Int.mul_ediv_cancel_left _ (by omega)]
    rw [← c]
    exact h1.chio
termination_by t => t
decreasing_by omega
/-- what is left at last is the determinant -/
theorem Gd.last {m : Nat} {A : Nat → Nat → Int} (g : Gd m A) : bq A m = Bw.det m A := by
  cases m with
  | zero => rfl
  | succ k =>
    have h := (bareiss k A fun s hs => by
      have h1 := (g.pivots s (by omega)).1
      have e : k + 1 - s = (k - s) + 1 := by omega
      rw [e] at h1
      have := h1.corner
      omega).1 0
    rw [Int.pow_zero, Int.one_mul, det_one] at h
    exact h
end Bw
/-! Part 23. math.lcm; the least number that each of some fractions times it is whole. -/
namespace Bw
open PySem PySem.Spec PyProof.Rows L2
section
variable {X : Cx}
def rLcm : List V → Hp → VK → Prop := fun vs H Q => ∃ a b : Int, vs = [.int a, .int b] ∧ a.natAbs < 2 ^ 64 ∧ b.natAbs < 2 ^ 64 ∧ Q (.int ((Nat.lcm a.natAbs b.natAbs : Nat) : Int)) H
theorem cr_lcm : CallR X (.builtin "math.lcm") rLcm := by
  intro pins s σ H vs us Q I r h
  obtain ⟨a, b, rfl, ha, hb, q⟩ := h
  obtain ⟨t, u, rfl⟩ := Vals.int2 r
  exact PySem.W.mc_lcm ha hb fun _ => ⟨.int _, H, I.tok _, ⟨_, rfl⟩, q⟩
end
/-- the least number that each of some fractions times it is whole -/
def cb (qs : List Rat) : Nat := qs.foldl (fun l q => Nat.lcm l q.den) 1
theorem cb_snoc (qs : List Rat) (q : Rat) : cb (qs ++ [q]) = Nat.lcm (cb qs) q.den := by
  unfold cb
  rw [List.foldl_append]
  rfl
theorem cb_take {qs : List Rat} {i : Nat} {q : Rat} (h : qs[i]? = some q) : cb (qs.take (i + 1)) = Nat.lcm (cb (qs.take i)) q.den := by
  rw [List.take_succ, h]
  exact cb_snoc _ _
theorem cb_fold {R : Nat} : ∀ {qs : List Rat} {l : Nat}, l ∣ R → (∀ q ∈ qs, q.den ∣ R) → qs.foldl (fun l q => Nat.lcm l q.den) l ∣ R
  | [], _, h, _ => h
  | q :: qs, l, h, hq => by
    rw [List.foldl_cons]
    exact cb_fold (Nat.lcm_dvd h (hq q List.mem_cons_self)) fun p hp => hq p (List.mem_cons_of_mem _ hp)
theorem cb_dvd {R : Nat} {qs : List Rat} (h : ∀ q ∈ qs, q.den ∣ R) : cb qs ∣ R := cb_fold (Nat.one_dvd R) h
theorem fold_up : ∀ {qs : List Rat} {l : Nat}, l ∣ qs.foldl (fun l q => Nat.lcm l q.den) l ∧ ∀ q ∈ qs, q.den ∣ qs.foldl (fun l q => Nat.lcm l q.den) l
  | [], _ => ⟨Nat.dvd_refl _, fun q h => by simp at h⟩
  | q :: qs, l => by
    rw [List.foldl_cons]
    obtain ⟨h1, h2⟩ := fold_up (qs := qs) (l := Nat.lcm l q.den)
    refine ⟨Nat.dvd_trans (Nat.dvd_lcm_left _ _) h1, fun p hp => ?_⟩
    rcases List.mem_cons.mp hp with rfl | hp
    · exact Nat.dvd_trans (Nat.dvd_lcm_right _ _) h1
    · exact h2 p hp
theorem den_cb {qs : List Rat} {q : Rat} (h : q ∈ qs) : q.den ∣ cb qs := fold_up.2 q h
theorem cb_pos {R : Nat} {qs : List Rat} (h0 : 0 < R) (h : ∀ q ∈ qs, q.den ∣ R) : 0 < cb qs := Nat.pos_of_dvd_of_pos (cb_dvd h) h0
/-- the fraction times a number that makes it whole -/
def upZ (L : Nat) (q : Rat) : Int := q.num * ((L : Int) / (q.den : Int))
theorem upZ_eq {L : Nat} {q : Rat} (h : q.den ∣ L) : ((upZ L q : Int) : Rat) = (L : Rat) * q := by
  obtain ⟨k, rfl⟩ := h
  have d0 : (0 : Int) < (q.den : Int) := Bq.den_pos q
  unfold upZ
  rw [Int.natCast_mul, Int.mul_ediv_cancel_left _ (by omega)]
  have e : q = (q.num : Rat) / ((q.den : Int) : Rat) := by
    have := Bq.num_over q
    rw [Rat.divInt_eq_div] at this
    exact this.symm
  have d1 : (((q.den : Int)) : Rat) ≠ 0 := by
    intro z
    have : (q.den : Int) = 0 := by exact_mod_cast z
    omega
  have e2 : ((q.den * k : Nat) : Rat) = ((q.den : Int) : Rat) * ((k : Int) : Rat) := by
    rw [← Rat.intCast_mul, ← Int.natCast_mul]
    exact (Rat.intCast_natCast _).symm
  rw [Rat.intCast_mul, e2]
  generalize ((k : Int) : Rat) = x
  generalize (((q.den : Int)) : Rat) = d at *
  generalize ((q.num : Int) : Rat) = y at *
  rw [e]
  grind
end Bw
/-! Part 24. Such squares' determinants are at most what stands from corner to corner multiplied; rows scaled. Plain mathematics. -/
namespace Bw
theorem Gd.diag {m : Nat} {A : Nat → Nat → Int} (g : Gd m A) {i : Nat} (hi : i < m) : 0 ≤ A i i := by
  have h0 := g.sum i hi
  have h1 := sZ_le (f := A i) (g := fun j => if j = i then A i i else 0) (n := m) fun j hj => by
    by_cases c : j = i
    · rw [if_pos c, c]
      exact Int.le_refl _
    · rw [if_neg c]
      exact g.off i j hi hj fun z => c z.symm
  rw [sZ_one (a := i) hi fun j _ h => if_neg h, if_pos rfl] at h1
  omega
theorem pZ_le {f g : Nat → Int} : ∀ {n : Nat}, (∀ i, i < n → 0 ≤ f i ∧ f i ≤ g i) → 0 ≤ pZ n f ∧ pZ n f ≤ pZ n g
  | 0, _ => ⟨by show (0 : Int) ≤ 1; decide, Int.le_refl _⟩
  | n + 1, h => by
    obtain ⟨h1, h2⟩ := pZ_le (f := f) (g := g) (n := n) fun i hi => h i (by omega)
    obtain ⟨h3, h4⟩ := h n (by omega)
    rw [pZ, pZ]
    exact ⟨Int.mul_nonneg h1 h3, Int.mul_le_mul h2 h4 h3 (by omega)⟩
theorem pZ_shift (f : Nat → Int) : ∀ n, pZ (n + 1) f = f 0 * pZ n fun i => f (i + 1)
  | 0 => by simp [pZ]
  | n + 1 => by
    rw [pZ, pZ_shift f n, pZ, Int.mul_assoc]
theorem pZ_scale (c : Int) (f : Nat → Int) : ∀ n, pZ n (fun i => c * f i) = c ^ n * pZ n f
  | 0 => by simp [pZ]
  | n + 1 => by
    rw [pZ, pZ, pZ_scale c f n, Int.pow_succ]
    generalize c ^ n = x
    generalize pZ n f = y
    grind
theorem pZ_pos {f : Nat → Int} : ∀ {n : Nat}, (∀ i, i < n → 0 < f i) → 0 < pZ n f
  | 0, _ => by show (0 : Int) < 1; decide
  | n + 1, h => by
    rw [pZ]
    exact Int.mul_pos (pZ_pos fun i hi => h i (by omega)) (h n (by omega))
theorem pZ_lt {f : Nat → Int} {b : Nat} : ∀ {n : Nat}, (∀ i, i < n → (f i).natAbs < 2 ^ b) → (pZ n f).natAbs < 2 ^ (1 + n * b)
  | 0, _ => by
    rw [Nat.zero_mul]
    show 1 < 2
    decide
  | n + 1, h => by
    rw [pZ, Nat.succ_mul, ← Nat.add_assoc]
    exact Bq.mul_lt (pZ_lt fun i hi => h i (by omega)) (h n (by omega))
theorem Gd.det_le : ∀ {m : Nat} {A : Nat → Nat → Int}, Gd m A → Bw.det m A ≤ pZ m fun i => A i i
  | 0, _, _ => Int.le_refl _
  | m + 1, A, g => by
    have p := g.corner
    have h1 := det_chio m A
    have h2 := Gd.det_le g.chio
    have h3 := (pZ_le (f := fun i => Bw.chio A i i) (g := fun i => A 0 0 * A (i + 1) (i + 1)) (n := m) fun i hi => by
      refine ⟨g.chio.diag hi, ?_⟩
      have := Int.mul_nonneg_of_nonpos_of_nonpos (g.off (i + 1) 0 (by omega) (by omega) (by omega)) (g.off 0 (i + 1) (by omega) (by omega) (by omega))
      unfold Bw.chio
      omega).2
    rw [pZ_scale] at h3
    rw [pZ_shift]
    have h4 : A 0 0 ^ m * Bw.det (m + 1) A ≤ A 0 0 ^ m * (A 0 0 * pZ m fun i => A (i + 1) (i + 1)) := by
      rw [h1, Int.mul_left_comm]
      exact Int.mul_le_mul_of_nonneg_left (Int.le_trans h2 h3) (Int.le_of_lt p)
    exact Int.le_of_mul_le_mul_left h4 (Int.pow_pos p)
/-- rows times numbers above 0 -/
theorem Gd.unrows {m : Nat} {B : Nat → Nat → Int} {q : Nat → Int} (hq : ∀ i, i < m → 0 < q i) (g : Gd m fun i j => q i * B i j) : Gd m B := by
  have s : ∀ i, sZ m (fun j => q i * B i j) = q i * sZ m (B i) := fun i => sZ_mul (q i) (B i) m
  refine ⟨fun i j hi hj ne => ?_, fun i hi => ?_, fun i hi => ?_⟩
  · have h1 := g.off i j hi hj ne
    by_cases c : B i j ≤ 0
    · exact c
    · have := Int.mul_pos (hq i hi) (show 0 < B i j by omega)
      omega
  · have h1 := g.sum i hi
    rw [s] at h1
    by_cases c : 0 ≤ sZ m (B i)
    · exact c
    · have := Int.mul_neg_of_pos_of_neg (hq i hi) (show sZ m (B i) < 0 by omega)
      omega
  · have o := g.out i hi
    induction o with
    | @done a h t =>
      rw [s] at t
      refine .done h ?_
      by_cases c : 0 < sZ m (B a)
      · exact c
      · have := Int.mul_nonpos_of_nonneg_of_nonpos (Int.le_of_lt (hq a h)) (Int.not_lt.mp c)
        omega
    | @step a b h1 h2 ne t o ih =>
      refine .step h1 h2 ne ?_ (ih h2)
      by_cases c : 0 ≤ B a b
      · have := Int.mul_nonneg (Int.le_of_lt (hq a h1)) c
        omega
      · omega
theorem Gd.rows {m : Nat} {B : Nat → Nat → Int} {q : Nat → Int} (hq : ∀ i, i < m → 0 < q i) (g : Gd m B) : Gd m fun i j => q i * B i j := by
  have s : ∀ i, sZ m (fun j => q i * B i j) = q i * sZ m (B i) := fun i => sZ_mul (q i) (B i) m
  refine ⟨fun i j hi hj ne => Int.mul_nonpos_of_nonneg_of_nonpos (Int.le_of_lt (hq i hi)) (g.off i j hi hj ne), fun i hi => ?_, fun i hi => ?_⟩
  · rw [s]
    exact Int.mul_nonneg (Int.le_of_lt (hq i hi)) (g.sum i hi)
  · have o := g.out i hi
    induction o with
    | @done a h t =>
      refine .done h ?_
      rw [s]
      exact Int.mul_pos (hq a h) t
    | @step a b h1 h2 ne t o ih => exact .step h1 h2 ne (Int.mul_neg_of_pos_of_neg (hq a h1) t) (ih h2)
theorem Gd.congr {m : Nat} {A B : Nat → Nat → Int} (e : ∀ i j, i < m → j < m → A i j = B i j) (g : Gd m A) : Gd m B := by
  have s : ∀ i, i < m → sZ m (A i) = sZ m (B i) := fun i hi => sZ_congr fun j hj => e i j hi hj
  refine ⟨fun i j hi hj ne => by rw [← e i j hi hj]; exact g.off i j hi hj ne, fun i hi => by rw [← s i hi]; exact g.sum i hi, fun i hi => ?_⟩
  have o := g.out i hi
  induction o with
  | @done a h t => exact .done h (by rw [← s a h]; exact t)
  | @step a b h1 h2 ne t o ih => exact .step h1 h2 ne (by rw [← e a b h1 h2]; exact t) (ih h2)
end Bw
set_option exponentiation.threshold 4000
/-! Part 26. zip of two tuples of any lengths; rows of places and their chances. -/
namespace Bw
open PySem PySem.Spec PyProof.Rows L2
theorem walk_zipM {K : PySem.W.Frag} {a b : Addr} {xs ys : List V} {n : Nat} (hx : n ≤ xs.length) (hy : n ≤ ys.length) (he : xs.length ≤ n ∨ ys.length ≤ n) : Walk (RZ.ItzT K a b) n (fun H => SqT K H a xs ∧ SqT K H b ys) (YPair (fun i => xs[i]?) (fun i => ys[i]?)) := by
  refine ⟨fun i _ hi q => ⟨xs, ys, xs[i]'(by omega), ys[i]'(by omega), q.1, q.2, List.getElem?_eq_getElem (by omega), List.getElem?_eq_getElem (by omega)⟩, fun _ q => ⟨xs, ys, q.1, q.2, he⟩, fun i H v H' _ q y => ?_⟩
  obtain ⟨T, x, z, e1, e2, e3, e4, e5⟩ := y
  exact ⟨T, x, z, e1, e2, e3, e4 xs q.1, e5 ys q.2⟩
/-- the steps of a row of places -/
def stq (l : List Nat) : List (Nat × Nat) := l.zip (l.drop 1)
theorem stq_len (l : List Nat) : (stq l).length = l.length - 1 := by
  unfold stq
  rw [List.length_zip, List.length_drop]
  omega
theorem stq_mem {l : List Nat} {p : Nat × Nat} (h : p ∈ stq l) : p.1 ∈ l ∧ p.2 ∈ l := by
  obtain ⟨a, b⟩ := p
  have := List.of_mem_zip h
  exact ⟨this.1, List.mem_of_mem_drop this.2⟩
theorem stq_snoc (b : Nat) : ∀ {l : List Nat}, l ≠ [] → stq (l ++ [b]) = stq l ++ [(l.getLastD 0, b)]
  | [], h => absurd rfl h
  | [a], _ => rfl
  | a :: c :: l, _ => by
    have ih := stq_snoc b (l := c :: l) (by simp)
    show (a, c) :: stq (c :: l ++ [b]) = (a, c) :: (stq (c :: l) ++ _)
    rw [ih]
    rfl
/-- the chance of a row of places, at rest -/
def rqQ (s : Nat → Rat) (g : Nat → Nat → Rat) (l : List Nat) : Rat := s (l.headD 0) * fw g (stq l)
theorem rqQ_one (s : Nat → Rat) (g : Nat → Nat → Rat) (b : Nat) : rqQ s g [b] = s b := by
  unfold rqQ
  show s b * 1 = s b
  grind
theorem rqQ_snoc {s : Nat → Rat} {g : Nat → Nat → Rat} {l : List Nat} (b : Nat) (h : l ≠ []) : rqQ s g (l ++ [b]) = rqQ s g l * g (l.getLastD 0) b := by
  unfold rqQ
  rw [stq_snoc b h, fw_app, fw_one]
  have : (l ++ [b]).headD 0 = l.headD 0 := by
    cases l with
    | nil => exact absurd rfl h
    | cons a l => rfl
  rw [this]
  grind
/-- all rows of so many places -/
def rowsN (n : Nat) : Nat → List (List Nat)
  | 0 => [[]]
  | t + 1 => (rowsN n t).flatMap fun w => (List.range n).map fun j => w ++ [j]
theorem rowsN_mem {n : Nat} : ∀ {t : Nat} {w : List Nat}, w ∈ rowsN n t → w.length = t ∧ ∀ x ∈ w, x < n
  | 0, w, h => by
    rw [rowsN, List.mem_singleton] at h
    rw [h]
    exact ⟨rfl, fun x hx => by simp at hx⟩
  | t + 1, w, h => by
    rw [rowsN, List.mem_flatMap] at h
    obtain ⟨u, hu, h⟩ := h
    obtain ⟨j, hj, rfl⟩ := List.mem_map.mp h
    have ih := rowsN_mem hu
    refine ⟨by rw [List.length_append, ih.1]; rfl, fun x hx => ?_⟩
    rcases List.mem_append.mp hx with hx | hx
    · exact ih.2 x hx
    · rw [List.mem_singleton.mp hx]
      exact List.mem_range.mp hj
theorem rowsN_len (n : Nat) : ∀ t, (rowsN n t).length = n ^ t
  | 0 => rfl
  | t + 1 => by
    have e : ∀ l : List (List Nat), (l.flatMap fun w => (List.range n).map fun j => w ++ [j]).length = l.length * n := fun l => by
      induction l with
      | nil => simp
      | cons a l ih => rw [List.flatMap_cons, List.length_append, ih, List.length_map, List.length_range, List.length_cons, Nat.succ_mul, Nat.add_comm]
    rw [rowsN, e, rowsN_len n t, Nat.pow_succ]
theorem sumQ_flat {α : Type} {f : α → Rat} : ∀ {l : List α} {k : α → List Rat}, (∀ a ∈ l, Bq.sumQ (k a) = f a) → Bq.sumQ (l.flatMap k) = Bq.sumQ (l.map f)
  | [], _, _ => rfl
  | a :: l, k, h => by
    rw [List.flatMap_cons, sumQ_app, List.map_cons, h a List.mem_cons_self, sumQ_flat fun b hb => h b (List.mem_cons_of_mem _ hb), Bq.sumQ]
theorem sumQ_mulL (c : Rat) : ∀ l : List Rat, Bq.sumQ (l.map fun q => c * q) = c * Bq.sumQ l
  | [] => by
    show (0 : Rat) = c * 0
    grind
  | q :: l => by
    rw [List.map_cons, Bq.sumQ, sumQ_mulL c l, Bq.sumQ]
    grind
theorem getLastD_lt {n : Nat} {l : List Nat} (h : l ≠ []) (hl : ∀ x ∈ l, x < n) : l.getLastD 0 < n := by
  cases l with
  | nil => exact absurd rfl h
  | cons a l =>
    have : (a :: l).getLastD 0 = (a :: l).getLast (by simp) := by
      rw [List.getLastD_cons, List.getLast_eq_getLastD]
    rw [this]
    exact hl _ (List.getLast_mem _)
/-- all rows of a length are 1 together -/
theorem rows_one {n : Nat} {s : Nat → Rat} {g : Nat → Nat → Rat} (hs : Bq.sumQ ((List.range n).map s) = 1) (hg : ∀ i, i < n → Bq.sumQ ((List.range n).map (g i)) = 1) : ∀ t, 1 ≤ t → Bq.sumQ ((rowsN n t).map (rqQ s g)) = 1
  | 0, h => by omega
  | 1, _ => by
    have e : (rowsN n 1).map (rqQ s g) = (List.range n).map s := by
      show ((List.flatMap (fun w => (List.range n).map fun j => w ++ [j]) [[]])).map (rqQ s g) = _
      rw [List.flatMap_cons, List.flatMap_nil, List.append_nil, List.map_map]
      exact List.map_congr_left fun j _ => rqQ_one s g j
    rw [e, hs]
  | t + 2, _ => by
    have ih := rows_one hs hg (t + 1) (by omega)
    rw [rowsN, List.map_flatMap, sumQ_flat (f := rqQ s g) fun w hw => ?_, ih]
    obtain ⟨h1, h2⟩ := rowsN_mem hw
    have h3 : w ≠ [] := fun z => by
      rw [z] at h1
      simp at h1
    have e : ((List.range n).map fun j => w ++ [j]).map (rqQ s g) = ((List.range n).map (g (w.getLastD 0))).map fun q => rqQ s g w * q := by
      rw [List.map_map, List.map_map]
      exact List.map_congr_left fun j _ => rqQ_snoc j h3
    rw [e, sumQ_mulL, hg _ (getLastD_lt h3 h2)]
    grind
/-! ### over one number below -/
def nSum : List Nat → Nat
  | [] => 0
  | k :: l => k + nSum l
theorem nSum_app : ∀ l m : List Nat, nSum (l ++ m) = nSum l + nSum m
  | [], m => by simp [nSum]
  | k :: l, m => by
    rw [List.cons_append, nSum, nSum_app l m, nSum]
    omega
theorem sumQ_over (D : Nat) : ∀ l : List Nat, Bq.sumQ (l.map fun k => fQ k / fQ D) = fQ (nSum l) / fQ D
  | [] => by
    show (0 : Rat) = fQ 0 / fQ D
    have : fQ 0 = 0 := rfl
    rw [this, Rat.div_def, Rat.zero_mul]
  | k :: l => by
    rw [List.map_cons, Bq.sumQ, sumQ_over D l, nSum, fQ_add, Rat.div_def, Rat.div_def, Rat.div_def]
    grind
theorem fQ_inj {a b : Nat} (h : fQ a = fQ b) : a = b := by
  have : (a : Rat) = (b : Rat) := h
  exact_mod_cast this
/-- parts of a sum that is 1 over one number below are no larger than this number -/
theorem part_sz {D N : Nat} {ks : List Nat} (d0 : 0 < D) (hD : D < 2 ^ N) (h1 : Bq.sumQ (ks.map fun k => fQ k / fQ D) = 1) :
    (∀ q ∈ ks.map fun k => fQ k / fQ D, Bq.Sz N q) ∧ ∀ i, Bq.Sz N (Bq.sumQ ((ks.map fun k => fQ k / fQ D).take i)) := by
  have e : nSum ks = D := by
    rw [sumQ_over] at h1
    have := fQ_ne d0
    refine fQ_inj ?_
    generalize fQ (nSum ks) = a at *
    generalize fQ D = b at *
    grind
  refine ⟨fun q hq => ?_, fun i => ?_⟩
  · obtain ⟨k, hk, rfl⟩ := List.mem_map.mp hq
    obtain ⟨l, m, rfl⟩ := List.append_of_mem hk
    rw [nSum_app, nSum] at e
    exact fQ_sz (by omega) hD d0
  · rw [← List.map_take, sumQ_over]
    have h2 : nSum ks = nSum (ks.take i) + nSum (ks.drop i) := by rw [← nSum_app, List.take_append_drop]
    exact fQ_sz (by omega) hD d0
/-- numbers multiplied -/
def pP : Nat → (Nat → Nat) → Nat
  | 0, _ => 1
  | n + 1, f => pP n f * f n
theorem pP_dvd {f : Nat → Nat} : ∀ {n i : Nat}, i < n → f i ∣ pP n f
  | 0, _, h => by omega
  | n + 1, i, h => by
    rw [pP]
    by_cases c : i = n
    · rw [c]
      exact Nat.dvd_mul_left _ _
    · exact Nat.dvd_trans (pP_dvd (by omega)) (Nat.dvd_mul_right _ _)
theorem pP_pos {f : Nat → Nat} : ∀ {n : Nat}, (∀ i, i < n → 0 < f i) → 0 < pP n f
  | 0, _ => Nat.one_pos
  | n + 1, h => Nat.mul_pos (pP_pos fun i hi => h i (by omega)) (h n (by omega))
theorem pP_lt {f : Nat → Nat} {b : Nat} : ∀ {n : Nat}, (∀ i, i < n → f i < 2 ^ b) → pP n f ≤ 2 ^ (n * b)
  | 0, _ => by simp [pP]
  | n + 1, h => by
    rw [pP, Nat.succ_mul, Nat.pow_add]
    exact Nat.mul_le_mul (pP_lt fun i hi => h i (by omega)) (Nat.le_of_lt (h n (by omega)))
def fwN (c : Nat → Nat → Nat) : List (Nat × Nat) → Nat
  | [] => 1
  | p :: t => c p.1 p.2 * fwN c t
theorem fw_over {g : Nat → Nat → Rat} {c : Nat → Nat → Nat} {S : Nat} (s0 : 0 < S) : ∀ {l : List (Nat × Nat)}, (∀ p ∈ l, g p.1 p.2 = fQ (c p.1 p.2) / fQ S) → fw g l = fQ (fwN c l) / fQ (S ^ l.length)
  | [], _ => by
    show (1 : Rat) = fQ 1 / fQ 1
    have : fQ 1 = 1 := rfl
    rw [this]
    grind
  | p :: l, h => by
    rw [fw, fw_over s0 fun q hq => h q (List.mem_cons_of_mem _ hq), h p List.mem_cons_self, fwN, fQ_mul, List.length_cons, Nat.pow_succ, fQ_mul]
    have h1 := fQ_ne s0
    have h2 := fQ_ne (Nat.pow_pos (n := l.length) s0)
    generalize fQ (S ^ l.length) = x at *
    generalize fQ S = y at *
    generalize fQ (c p.1 p.2) = u
    generalize fQ (fwN c l) = v
    grind
/-- all rows of a length have their chances over one number below -/
theorem rows_over {n A S t : Nat} {s : Nat → Rat} {g : Nat → Nat → Rat} {a : Nat → Nat} {c : Nat → Nat → Nat} (s0 : 0 < S) (hs : ∀ i, i < n → s i = fQ (a i) / fQ A) (a0 : 0 < A) (hg : ∀ i j, i < n → j < n → g i j = fQ (c i j) / fQ S) (ht : 1 ≤ t) :
    (rowsN n t).map (rqQ s g) = ((rowsN n t).map fun w => a (w.headD 0) * fwN c (stq w)).map fun k => fQ k / fQ (A * S ^ (t - 1)) := by
  rw [List.map_map]
  refine List.map_congr_left fun w hw => ?_
  obtain ⟨h1, h2⟩ := rowsN_mem hw
  have hh : w.headD 0 < n := by
    cases w with
    | nil =>
      simp at h1
      omega
    | cons b w => exact h2 b List.mem_cons_self
  have e := fw_over (g := g) (c := c) s0 (l := stq w) fun p hp => hg _ _ (h2 _ (stq_mem hp).1) (h2 _ (stq_mem hp).2)
  rw [stq_len, h1] at e
  show s (w.headD 0) * fw g (stq w) = fQ (a (w.headD 0) * fwN c (stq w)) / fQ (A * S ^ (t - 1))
  rw [e, hs _ hh, fQ_mul, fQ_mul]
  have h3 := fQ_ne a0
  have h4 := fQ_ne (Nat.pow_pos (n := t - 1) s0)
  generalize fQ (S ^ (t - 1)) = x at *
  generalize fQ A = y at *
  generalize fQ (a (w.headD 0)) = u
  generalize fQ (fwN c (stq w)) = v
  grind
theorem Wk.ch_over {n : Nat} {M : List (List Nat)} (h : Wk n M) {i j : Nat} (hi : i < n) : chQ n (mf M) i j = fQ (mf M i j * (pP n (fun i => sN n (mf M i)) / sN n (mf M i))) / fQ (pP n fun i => sN n (mf M i)) := by
  have s0 := pP_pos (f := fun i => sN n (mf M i)) fun i hi => h.p i hi
  obtain ⟨k, hk⟩ := pP_dvd (f := fun i => sN n (mf M i)) hi
  have hk' : pP n (fun i => sN n (mf M i)) = sN n (mf M i) * k := hk
  rw [hk'] at s0 ⊢
  have r0 := h.p i hi
  have k0 : 0 < k := Nat.pos_of_mul_pos_left s0
  rw [Nat.mul_div_cancel_left _ r0, fQ_mul, fQ_mul]
  unfold chQ
  have h1 := fQ_ne r0
  have h2 := fQ_ne k0
  generalize fQ (mf M i j) = u
  generalize fQ (sN n (mf M i)) = v at *
  generalize fQ k = x at *
  grind
theorem Wk.ch_one {n : Nat} {M : List (List Nat)} (h : Wk n M) {i : Nat} (hi : i < n) : Bq.sumQ ((List.range n).map (chQ n (mf M) i)) = 1 := by
  have h1 := sumQ_div (mf M i) (fQ (sN n (mf M i))) n
  have h2 := fQ_ne (h.p i hi)
  show Bq.sumQ ((List.range n).map fun j => fQ (mf M i j) / fQ (sN n (mf M i))) = 1
  rw [h1]
  grind
theorem Wk.sh_one {n : Nat} {M : List (List Nat)} (h : Wk n M) : Bq.sumQ ((List.range n).map (shQ n M)) = 1 := by
  have h1 := sumQ_div (pN n (mf M)) (fQ (allN n M)) n
  have h2 := fQ_ne h.all_pos
  show Bq.sumQ ((List.range n).map fun j => fQ (pN n (mf M) j) / fQ (allN n M)) = 1
  rw [h1]
  show fQ (allN n M) / fQ (allN n M) = 1
  grind
/-- the chances of all rows of up to three places: 1 together, and none of the sums on the way is long -/
theorem Wk.rows {n t : Nat} {M : List (List Nat)} (h : Wk n M) (t1 : 1 ≤ t) (t3 : t ≤ 3) :
    Bq.sumQ ((rowsN n t).map (rqQ (shQ n M) (chQ n (mf M)))) = 1 ∧ (∀ q ∈ (rowsN n t).map (rqQ (shQ n M) (chQ n (mf M))), Bq.Sz 1100 q) ∧ ∀ i, Bq.Sz 1100 (Bq.sumQ (((rowsN n t).map (rqQ (shQ n M) (chQ n (mf M)))).take i)) := by
  have one := rows_one (n := n) (s := shQ n M) (g := chQ n (mf M)) h.sh_one (fun i hi => h.ch_one hi) t t1
  have s0 := pP_pos (f := fun i => sN n (mf M i)) fun i hi => h.p i hi
  have e := rows_over (n := n) (A := allN n M) (S := pP n fun i => sN n (mf M i)) (t := t) (s := shQ n M) (g := chQ n (mf M)) (a := pN n (mf M)) (c := fun i j => mf M i j * (pP n (fun i => sN n (mf M i)) / sN n (mf M i))) s0 (fun i _ => rfl) h.all_pos (fun i j hi _ => h.ch_over hi) t1
  refine ⟨one, ?_⟩
  rw [e] at one ⊢
  have lt := pP_lt (f := fun i => sN n (mf M i)) (b := 23) (n := n) fun i hi => h.rs_lt hi
  have n6 := h.n6
  have l2 : pP n (fun i => sN n (mf M i)) ≤ 2 ^ 138 := Nat.le_trans lt (Nat.pow_le_pow_right (by decide) (by omega))
  generalize pP n (fun i => sN n (mf M i)) = S at *
  have l3 : S ^ (t - 1) ≤ 2 ^ 276 := by
    refine Nat.le_trans (Nat.pow_le_pow_left l2 (t - 1)) ?_
    rw [← Nat.pow_mul]
    exact Nat.pow_le_pow_right (by decide) (by omega)
  have l4 : allN n M * S ^ (t - 1) < 2 ^ 1100 := by
    refine Nat.lt_of_le_of_lt (Nat.mul_le_mul (Nat.le_of_lt h.all_lt) l3) ?_
    rw [← Nat.pow_add]
    exact Nat.pow_lt_pow_right (by decide) (by decide)
  exact part_sz (Nat.mul_pos h.all_pos (Nat.pow_pos s0)) l4 one
/-- a row's chance is not long -/
theorem Wk.row_sz {n : Nat} {M : List (List Nat)} (h : Wk n M) {l : List Nat} (l0 : l ≠ []) (hl : ∀ x ∈ l, x < n) (l7 : l.length ≤ 7) : Bq.Sz 1000 (rqQ (shQ n M) (chQ n (mf M)) l) := by
  have sz : ∀ {m : List (Nat × Nat)}, (∀ p ∈ m, Bq.Sz 23 (chQ n (mf M) p.1 p.2)) → Bq.Sz (1 + m.length * 23) (fw (chQ n (mf M)) m) := by
    intro m
    induction m with
    | nil =>
      intro _
      rw [fw, List.length_nil, Nat.zero_mul]
      exact ⟨by decide, by decide⟩
    | cons p m ih =>
      intro hp
      have h1 := (hp p List.mem_cons_self).mul (ih fun q hq => hp q (List.mem_cons_of_mem _ hq))
      rw [fw]
      refine h1.mono ?_
      rw [List.length_cons, Nat.succ_mul]
      omega
  have hh : l.headD 0 < n := by
    cases l with
    | nil => exact absurd rfl l0
    | cons b l => exact hl b List.mem_cons_self
  have h1 := sz (m := stq l) fun p hp => fQ_sz (Nat.lt_of_lt_of_le (h.k _ _ (hl _ (stq_mem hp).1) (hl _ (stq_mem hp).2)) (pow_le (by omega))) (h.rs_lt (hl _ (stq_mem hp).1)) (h.p _ (hl _ (stq_mem hp).1))
  rw [stq_len] at h1
  refine ((h.sh_sz hh).mul h1).mono ?_
  have : (l.length - 1) * 23 ≤ 6 * 23 := Nat.mul_le_mul_right _ (by omega)
  omega
end Bw
set_option exponentiation.threshold 4000
/-! Part 28. What is left of a square when places are left out one by one, without what all rows have in common; walks of numbers of any size, how long what comes of them is. Plain mathematics. -/
namespace Bw
theorem sZ_cut {f : Nat → Int} {k : Nat} : ∀ {m : Nat}, k ≤ m → (∀ j, k ≤ j → j < m → f j ≤ 0) → sZ m f ≤ sZ k f
  | 0, h, _ => by
    have : k = 0 := by omega
    rw [this]
    exact Int.le_refl _
  | m + 1, h, hf => by
    by_cases c : k = m + 1
    · rw [c]
      exact Int.le_refl _
    · have h1 := sZ_cut (f := f) (k := k) (m := m) (by omega) fun j a b => hf j a (by omega)
      have h2 := hf m (by omega) (by omega)
      rw [sZ]
      omega
theorem sZ_cut1 {f : Nat → Int} {k j0 : Nat} : ∀ {m : Nat}, k ≤ j0 → j0 < m → f j0 < 0 → (∀ j, k ≤ j → j < m → f j ≤ 0) → sZ m f < sZ k f
  | 0, _, h, _, _ => by omega
  | m + 1, h, h1, h2, hf => by
    rw [sZ]
    by_cases c : j0 = m
    · have h3 := sZ_cut (f := f) (k := k) (m := m) (by omega) fun j a b => hf j a (by omega)
      rw [← c] at h3 ⊢
      omega
    · have h3 := sZ_cut1 (f := f) (k := k) (m := m) h (by omega) h2 fun j a b => hf j a (by omega)
      have h4 := hf m (by omega) (by omega)
      omega
/-- the first rows and columns of such a square -/
theorem Gd.first {m k : Nat} {A : Nat → Nat → Int} (g : Gd m A) (h : k ≤ m) : Gd k A := by
  have out : ∀ i, Out m A i → i < k → Out k A i := fun i o => by
    induction o with
    | @done i hi s =>
      intro hk
      refine .done hk ?_
      have := sZ_cut (f := A i) (k := k) (m := m) h fun j a b => g.off i j hi b (by omega)
      omega
    | @step i j hi hj ne s o ih =>
      intro hk
      by_cases c : j < k
      · exact .step hk c ne s (ih c)
      · refine .done hk ?_
        have h1 := sZ_cut1 (f := A i) (k := k) (j0 := j) (m := m) (by omega) hj s fun y a b => g.off i y hi b (by omega)
        have h2 := g.sum i hi
        omega
  refine ⟨fun i j hi hj ne => g.off i j (by omega) (by omega) ne, fun i hi => ?_, fun i hi => out i (g.out i (by omega)) hi⟩
  have h1 := sZ_cut (f := A i) (k := k) (m := m) h fun j a b => g.off i j (by omega) b (by omega)
  have h2 := g.sum i (by omega)
  omega
/-- the places told in the other order -/
def rv (n : Nat) (M : Nat → Nat → Nat) : Nat → Nat → Nat := fun i j => M (n - 1 - i) (n - 1 - j)
theorem sN_shift (f : Nat → Nat) : ∀ n, sN (n + 1) f = f 0 + sN n fun i => f (i + 1)
  | 0 => by simp [sN]
  | n + 1 => by
    rw [sN, sN_shift f n, sN]
    omega
theorem sN_rv (f : Nat → Nat) : ∀ n, sN n (fun j => f (n - 1 - j)) = sN n f
  | 0 => rfl
  | n + 1 => by
    rw [sN_shift, sN, ← sN_rv f n]
    have e : sN n (fun j => f (n + 1 - 1 - (j + 1))) = sN n (fun j => f (n - 1 - j)) := sN_congr fun j hj => by
      congr 1
      omega
    rw [e]
    have e2 : n + 1 - 1 - 0 = n := by omega
    rw [e2]
    omega
theorem rv_str {n : Nat} {M : Nat → Nat → Nat} (h : StrN n M) : StrN n (rv n M) := by
  have key : ∀ a, a < n → ∀ b, Reach (EdN n M) a b → Reach (EdN n (rv n M)) (n - 1 - a) (n - 1 - b) := fun a ha b r => by
    induction r with
    | refl => exact .refl
    | step _ e ih =>
      obtain ⟨e1, e2, e3⟩ := e
      refine ih.step ⟨by omega, by omega, ?_⟩
      unfold rv
      rename_i x y _
      have q1 : n - 1 - (n - 1 - x) = x := by omega
      have q2 : n - 1 - (n - 1 - y) = y := by omega
      rw [q1, q2]
      exact e3
  intro a b ha hb
  have := key (n - 1 - a) (by omega) (n - 1 - b) (h _ _ (by omega) (by omega))
  have q1 : n - 1 - (n - 1 - a) = a := by omega
  have q2 : n - 1 - (n - 1 - b) = b := by omega
  rw [q1, q2] at this
  exact this
theorem rv_lap {n : Nat} {M : Nat → Nat → Nat} {i j : Nat} (hi : i < n) (hj : j < n) : lap n (rv n M) i j = lap n M (n - 1 - i) (n - 1 - j) := by
  unfold lap
  have e : sN n (rv n M i) = sN n (M (n - 1 - i)) := sN_rv (M (n - 1 - i)) n
  by_cases c : i = j
  · rw [if_pos c, if_pos (by rw [c]), e]
    rfl
  · rw [if_neg c, if_neg (by omega)]
    rfl
/-- all but the last of them -/
theorem rv_good {n : Nat} {M : Nat → Nat → Nat} (h : StrN n M) (h1 : 1 ≤ n) : Gd (n - 1) (lap n (rv n M)) := by
  obtain ⟨k, rfl⟩ : ∃ k, n = k + 1 := ⟨n - 1, by omega⟩
  have g := no_good (rv_str h) (i := k) (by omega)
  show Gd k _
  refine g.congr fun i j hi hj => ?_
  unfold no sk
  rw [if_pos hi, if_pos hj]
/-- one place more left out -/
theorem el_lap {l : Nat} {M : Nat → Nat → Nat} {i j : Nat} (hi : i < l) (hj : j < l) : lap l (el M l) i j = lap (l + 1) M l l * lap (l + 1) M i j - lap (l + 1) M i l * lap (l + 1) M l j := by
  rw [lap_off (show i ≠ l by omega), lap_off (show l ≠ j by omega)]
  unfold lap
  rw [el_sum, if_pos rfl]
  have e : (((sN (l + 1) (M l) : Nat) : Int)) - (M l l : Int) = ((gN M l : Nat) : Int) := by
    show (((gN M l + M l l : Nat)) : Int) - _ = _
    omega
  rw [e]
  unfold el
  rw [Int.natCast_add, Int.natCast_mul, Int.natCast_mul]
  by_cases c : i = j
  · rw [if_pos c, if_pos c, Int.natCast_mul]
    generalize ((gN M l : Nat) : Int) = g
    generalize ((sN (l + 1) (M i) : Nat) : Int) = s
    grind
  · rw [if_neg c, if_neg c]
    generalize ((gN M l : Nat) : Int) = g
    grind
/-- what all rows divide by behind t places left out -/
def qN (n : Nat) (M : Nat → Nat → Nat) (t : Nat) : Nat := (bq (lap n (rv n M)) t).toNat
theorem qN_eq {n : Nat} {M : Nat → Nat → Nat} (h : StrN n M) (h1 : 1 ≤ n) {t : Nat} (ht : t < n) : ((qN n M t : Nat) : Int) = bq (lap n (rv n M)) t ∧ 0 < qN n M t := by
  have := ((rv_good h h1).pivots t (by omega)).2
  unfold qN
  omega
theorem qN_lt {n b : Nat} {M : Nat → Nat → Nat} (h : StrN n M) (h1 : 1 ≤ n) (hb : ∀ i, i < n → sN n (M i) < 2 ^ b) {t : Nat} (ht : t < n) : qN n M t < 2 ^ (1 + t * b) := by
  have g := (rv_good h h1).first (show t ≤ n - 1 by omega)
  have e1 := g.last
  have e2 := g.det_le
  have e3 := g.det
  have e4 := pZ_lt (f := fun i => lap n (rv n M) i i) (b := b) (n := t) fun i hi => by
    show (lap n (rv n M) i i).natAbs < 2 ^ b
    rw [rv_lap (by omega) (by omega)]
    have := hb (n - 1 - i) (by omega)
    unfold lap
    rw [if_pos rfl]
    have h5 : M (n - 1 - i) (n - 1 - i) ≤ sN n (M (n - 1 - i)) := by
      have : ∀ m x (f : Nat → Nat), x < m → f x ≤ sN m f := fun m => by
        induction m with
        | zero => exact fun x f h => by omega
        | succ m ih =>
          intro x f h
          rw [sN]
          by_cases c : x = m
          · rw [c]
            omega
          · have := ih x f (by omega)
            omega
      exact this n _ _ (by omega)
    omega
  have e5 := qN_eq h h1 ht
  rw [e1] at e5
  omega
/-- behind t places left out: all is c times numbers that divide by s i * q -/
theorem stg_red {n : Nat} {M : Nat → Nat → Nat} (h : StrN n M) (h1 : 1 ≤ n) : ∀ t, t < n → ∃ c : Nat, 0 < c ∧ (∀ i j, i < n - t → j < n - t → lap (n - t) (stg n M t) i j = (c : Int) * bb (lap n (rv n M)) t (n - 1 - t - i) (n - 1 - t - j)) ∧
    ∀ i, i < n - t → sN (n - t) (stg n M t i) = c * (sN n (M i) * qN n M t)
  | 0, _ => ⟨1, by omega, fun i j hi hj => by
    show lap n M i j = ((1 : Nat) : Int) * lap n (rv n M) (n - 1 - 0 - i) (n - 1 - 0 - j)
    rw [rv_lap (by omega) (by omega)]
    have q1 : n - 1 - (n - 1 - 0 - i) = i := by omega
    have q2 : n - 1 - (n - 1 - 0 - j) = j := by omega
    rw [q1, q2]
    omega, fun i hi => by
    show sN n (M i) = 1 * (sN n (M i) * qN n M 0)
    have : qN n M 0 = 1 := rfl
    rw [this]
    omega⟩
  | t + 1, ht => by
    obtain ⟨c, c0, hl, hs⟩ := stg_red h h1 t (by omega)
    obtain ⟨l, hl1⟩ : ∃ l, n - t = l + 1 := ⟨n - t - 1, by omega⟩
    have el1 : n - (t + 1) = l := by omega
    have el2 : n - 1 - t = l := by omega
    have el3 : n - 1 - (t + 1) = l - 1 := by omega
    rw [hl1, el2] at hl
    rw [hl1] at hs
    have st : stg n M (t + 1) = el (stg n M t) l := by
      show el (stg n M t) (n - 1 - t) = _
      rw [el2]
    rw [el1, el3, st]
    have g := rv_good h h1
    have ex := (bareiss t (lap n (rv n M)) fun s hs => by
      have h2 := (g.pivots s (by omega)).1
      have e : n - 1 - s = (n - 1 - s - 1) + 1 := by omega
      rw [e] at h2
      have := h2.corner
      omega).2
    obtain ⟨q1, q2⟩ := qN_eq h h1 (show t < n by omega)
    obtain ⟨q3, q4⟩ := qN_eq h h1 ht
    have ch : ∀ i j, chio (bb (lap n (rv n M)) t) i j = (qN n M t : Int) * bb (lap n (rv n M)) (t + 1) i j := fun i j => by
      rw [bb_succ, q1, ex, Int.mul_ediv_cancel_left _ (by omega)]
    have gg : ((gN (stg n M t) l : Nat) : Int) = (c : Int) * (qN n M (t + 1) : Int) := by
      have h2 := hl l l (by omega) (by omega)
      rw [Nat.sub_self] at h2
      have h3 : lap (l + 1) (stg n M t) l l = ((gN (stg n M t) l : Nat) : Int) := by
        unfold lap
        rw [if_pos rfl]
        show (((gN (stg n M t) l + stg n M t l l : Nat)) : Int) - _ = _
        omega
      rw [h3] at h2
      rw [h2, q3, bq_succ]
    refine ⟨c * c * qN n M t, Nat.mul_pos (Nat.mul_pos c0 c0) q2, fun i j hi hj => ?_, fun i hi => ?_⟩
    · rw [el_lap hi hj, hl l l (by omega) (by omega), hl i j (by omega) (by omega), hl i l (by omega) (by omega), hl l j (by omega) (by omega), Nat.sub_self]
      have e := ch (l - 1 - i) (l - 1 - j)
      unfold chio at e
      have f1 : l - 1 - i + 1 = l - i := by omega
      have f2 : l - 1 - j + 1 = l - j := by omega
      rw [f1, f2] at e
      rw [Int.natCast_mul, Int.natCast_mul, Int.mul_assoc _ (qN n M t : Int), ← e]
      generalize bb (lap n (rv n M)) t 0 0 = a
      generalize bb (lap n (rv n M)) t (l - i) (l - j) = b
      generalize bb (lap n (rv n M)) t (l - i) 0 = d
      generalize bb (lap n (rv n M)) t 0 (l - j) = f
      generalize (c : Int) = c
      grind
    · rw [el_sum, hs i (by omega)]
      have : gN (stg n M t) l = c * qN n M (t + 1) := by
        have h9 : ((gN (stg n M t) l : Nat) : Int) = ((c * qN n M (t + 1) : Nat) : Int) := by
          rw [gg, Int.natCast_mul]
        exact Int.ofNat.inj h9
      rw [this]
      generalize qN n M (t + 1) = x
      generalize qN n M t = y
      generalize sN n (M i) = s
      grind
theorem sN_ge {f : Nat → Nat} : ∀ {n x : Nat}, x < n → f x ≤ sN n f
  | 0, _, h => by omega
  | n + 1, x, h => by
    rw [sN]
    by_cases c : x = n
    · rw [c]
      omega
    · have := sN_ge (f := f) (n := n) (x := x) (by omega)
      omega
/-- each number of such a stage is c times one, at most its row's -/
theorem stg_num {n : Nat} {M : Nat → Nat → Nat} (h : StrN n M) (h1 : 1 ≤ n) {t : Nat} (ht : t < n) : ∃ c : Nat, 0 < c ∧ (∀ i j, i < n - t → j < n - t → ∃ x, stg n M t i j = c * x ∧ x ≤ sN n (M i) * qN n M t) ∧ ∀ i, i < n - t → sN (n - t) (stg n M t i) = c * (sN n (M i) * qN n M t) := by
  obtain ⟨c, c0, hl, hs⟩ := stg_red h h1 t ht
  refine ⟨c, c0, fun i j hi hj => ?_, hs⟩
  have e := hl i j hi hj
  obtain ⟨z, hz⟩ : ∃ z : Int, ((stg n M t i j : Nat) : Int) = (c : Int) * z := by
    have e' : (if i = j then ((sN (n - t) (stg n M t i) : Nat) : Int) else 0) - ((stg n M t i j : Nat) : Int) = (c : Int) * bb (lap n (rv n M)) t (n - 1 - t - i) (n - 1 - t - j) := e
    by_cases cc : i = j
    · rw [if_pos cc, hs i hi] at e'
      refine ⟨((sN n (M i) * qN n M t : Nat) : Int) - bb (lap n (rv n M)) t (n - 1 - t - i) (n - 1 - t - j), ?_⟩
      rw [Int.natCast_mul] at e'
      rw [Int.mul_sub, ← e']
      omega
    · rw [if_neg cc] at e'
      refine ⟨- bb (lap n (rv n M)) t (n - 1 - t - i) (n - 1 - t - j), ?_⟩
      rw [Int.mul_neg, ← e']
      omega
  have z0 : 0 ≤ z := by
    by_cases cz : 0 ≤ z
    · exact cz
    · have : (c : Int) * z < 0 := Int.mul_neg_of_pos_of_neg (by omega) (by omega)
      omega
  obtain ⟨x, rfl⟩ : ∃ x : Nat, z = (x : Int) := ⟨z.toNat, by omega⟩
  have ex : stg n M t i j = c * x := by exact_mod_cast hz
  refine ⟨x, ex, ?_⟩
  have h2 := sN_ge (f := stg n M t i) hj
  rw [hs i hi, ex] at h2
  exact Nat.le_of_mul_le_mul_left h2 c0
end Bw
set_option exponentiation.threshold 4000
/-! Part 32. Walks drawn from squares of numbers below 2 ^ b i in row i, how long all is that comes of them; the walk backwards is such a walk. Plain mathematics. -/
namespace Bw
theorem sN_two {f : Nat → Nat} {t j : Nat} : ∀ {n : Nat}, t ≤ j → j < n → sN t f + f j ≤ sN n f
  | 0, _, h => by omega
  | n + 1, h, h1 => by
    rw [sN]
    by_cases c : j = n
    · rw [c]
      have : ∀ m, t ≤ m → sN t f ≤ sN m f := fun m => by
        induction m with
        | zero =>
          intro z
          have : t = 0 := by omega
          rw [this]
          exact Nat.le_refl _
        | succ m ih =>
          intro z
          by_cases e : t = m + 1
          · rw [e]
            exact Nat.le_refl _
          · have := ih (by omega)
            rw [sN]
            omega
      have := this n (by omega)
      omega
    · have := sN_two (f := f) (t := t) (j := j) (n := n) h (by omega)
      omega
theorem sN_mono {f g : Nat → Nat} : ∀ {n : Nat}, (∀ i, i < n → f i ≤ g i) → sN n f ≤ sN n g
  | 0, _ => Nat.le_refl _
  | n + 1, h => by
    rw [sN, sN]
    have := sN_mono (f := f) (g := g) (n := n) fun i hi => h i (by omega)
    have := h n (by omega)
    omega
theorem sN_cst (c : Nat) : ∀ n, sN n (fun _ => c) = n * c
  | 0 => by simp [sN]
  | n + 1 => by rw [sN, sN_cst c n, Nat.succ_mul]
theorem sN_skip (f : Nat → Nat) (i : Nat) : ∀ n, i ≤ n → sN (n + 1) f = f i + sN n fun r => f (sk i r)
  | 0, h => by
    have : i = 0 := by omega
    subst this
    simp [sN]
  | n + 1, h => by
    by_cases c : i = n + 1
    · subst c
      have e : (sN (n + 1) fun r => f (sk (n + 1) r)) = sN (n + 1) f := sN_congr fun r hr => by
        unfold sk
        rw [if_pos hr]
      rw [e, sN, Nat.add_comm]
    · rw [sN, sN_skip f i n (by omega), sN]
      have e : sk i n = n + 1 := by
        unfold sk
        rw [if_neg (by omega)]
      rw [e]
      omega
theorem pZ_ltr {f : Nat → Int} {c : Nat → Nat} : ∀ {n : Nat}, (∀ i, i < n → (f i).natAbs < 2 ^ c i) → (pZ n f).natAbs < 2 ^ (1 + sN n c)
  | 0, _ => by
    show (1 : Int).natAbs < 2 ^ (1 + 0)
    decide
  | n + 1, h => by
    rw [pZ, sN, ← Nat.add_assoc]
    exact Bq.mul_lt (pZ_ltr fun i hi => h i (by omega)) (h n (by omega))
/-- a walk drawn from a square of numbers, those of row i below 2 ^ b i -/
structure WkS (b : Nat → Nat) (n : Nat) (M : List (List Nat)) : Prop where
  n1 : 1 ≤ n
  n6 : n ≤ 6
  hS : sN n (fun i => b i + 3) ≤ 2200
  l : M.length = n
  r : ∀ row ∈ M, row.length = n
  k : ∀ i j, i < n → j < n → mf M i j < 2 ^ b i
  st : StrN n (mf M)
  p : ∀ i, i < n → 0 < sN n (mf M i)
/-- how long all of it gets -/
abbrev bS (n : Nat) (b : Nat → Nat) : Nat := sN n fun i => b i + 3
theorem WkS.at {b : Nat → Nat} {n : Nat} {M : List (List Nat)} (h : WkS b n M) {i : Nat} (hi : i < n) : ∃ row, M[i]? = some row ∧ row.length = n := by
  have hl := h.l
  have e : M[i]? = some (M[i]'(by omega)) := List.getElem?_eq_getElem (by omega)
  exact ⟨_, e, h.r _ (List.mem_of_getElem? e)⟩
theorem WkS.row {b : Nat → Nat} {n : Nat} {M : List (List Nat)} (h : WkS b n M) {i : Nat} (hi : i < n) : (walkM M)[i]? = some ((List.range n).map fun j => chQ n (mf M) i j) := by
  obtain ⟨row, e, hl⟩ := h.at hi
  unfold walkM
  rw [List.getElem?_map, e]
  show some (overQ row) = _
  rw [overQ_eq hl]
  unfold chQ
  rw [mf_row e]
theorem WkS.len {b : Nat → Nat} {n : Nat} {M : List (List Nat)} (h : WkS b n M) : (walkM M).length = n := by
  unfold walkM
  rw [List.length_map, h.l]
theorem WkS.tab {b : Nat → Nat} {n : Nat} {M : List (List Nat)} (h : WkS b n M) : walkM M = (List.range n).map fun i => (List.range n).map fun j => chQ n (mf M) i j := by
  refine List.ext_getElem? fun i => ?_
  by_cases hi : i < n
  · rw [h.row hi, List.getElem?_map, List.getElem?_range hi]
    rfl
  · rw [List.getElem?_eq_none (by rw [h.len]; omega), List.getElem?_eq_none (by simp; omega)]
theorem WkS.rs_lt {b : Nat → Nat} {n : Nat} {M : List (List Nat)} (h : WkS b n M) {i : Nat} (hi : i < n) : sN n (mf M i) < 2 ^ (b i + 3) := sN_bits h.n6 fun j hj => h.k i j hi hj
theorem mul_lt2 {a b m n : Nat} (ha : a < 2 ^ m) (hb : b < 2 ^ n) {k : Nat} (h : m + n ≤ k) : a * b < 2 ^ k := Nat.lt_of_lt_of_le (mul_bits ha hb) (pow_le h)
section
variable {b : Nat → Nat} {n : Nat} {M : List (List Nat)}
theorem WkS.q_pos (h : WkS b n M) {t : Nat} (ht : t < n) : 0 < qN n (mf M) t := (qN_eq h.st h.n1 ht).2
/-- how long what divides all gets behind t places left out -/
def cS (n : Nat) (b : Nat → Nat) (t : Nat) : Nat := sN t fun i => b (n - 1 - i) + 3
theorem cS_succ {t : Nat} (ht : t < n) : cS n b (t + 1) = cS n b t + (b (n - 1 - t) + 3) := rfl
theorem cS_le {t : Nat} (ht : t ≤ n) : cS n b t ≤ bS n b := by
  have e := sN_rv (fun i => b i + 3) n
  show sN t (fun i => b (n - 1 - i) + 3) ≤ sN n fun i => b i + 3
  rw [← e]
  by_cases c : t = n
  · rw [c]
    exact Nat.le_refl _
  · have := sN_two (f := fun i => b (n - 1 - i) + 3) (t := t) (j := t) (n := n) (Nat.le_refl _) (by omega)
    omega
theorem cS_row {t i : Nat} (ht : t < n) (hi : i < n - t) : (b i + 3) + cS n b t ≤ bS n b := by
  have e := sN_rv (fun i => b i + 3) n
  have h := sN_two (f := fun i => b (n - 1 - i) + 3) (t := t) (j := n - 1 - i) (n := n) (by omega) (by omega)
  have q : n - 1 - (n - 1 - i) = i := by omega
  have h' : sN t (fun i => b (n - 1 - i) + 3) + (b (n - 1 - (n - 1 - i)) + 3) ≤ sN n fun i => b (n - 1 - i) + 3 := h
  rw [q] at h'
  have e' : (sN n fun i => b (n - 1 - i) + 3) = sN n fun i => b i + 3 := e
  show (b i + 3) + sN t (fun i => b (n - 1 - i) + 3) ≤ sN n fun i => b i + 3
  omega
theorem WkS.q_lt (h : WkS b n M) {t : Nat} (ht : t < n) : qN n (mf M) t < 2 ^ (1 + cS n b t) := by
  have g := (rv_good h.st h.n1).first (show t ≤ n - 1 by omega)
  have e1 := g.last
  have e2 := g.det_le
  have e3 := g.det
  have e4 := pZ_ltr (f := fun i => lap n (rv n (mf M)) i i) (c := fun i => b (n - 1 - i) + 3) (n := t) fun i hi => by
    show (lap n (rv n (mf M)) i i).natAbs < 2 ^ (b (n - 1 - i) + 3)
    rw [rv_lap (by omega) (by omega)]
    have := h.rs_lt (i := n - 1 - i) (by omega)
    unfold lap
    rw [if_pos rfl]
    have h5 := sN_ge (f := mf M (n - 1 - i)) (n := n) (x := n - 1 - i) (by omega)
    omega
  have e5 := qN_eq h.st h.n1 ht
  rw [e1] at e5
  have e6 : cS n b t = sN t fun i => b (n - 1 - i) + 3 := rfl
  rw [e6]
  omega
theorem WkS.q_ltS (h : WkS b n M) {t : Nat} (ht : t < n) : qN n (mf M) t < 2 ^ (1 + bS n b) :=
  Nat.lt_of_lt_of_le (h.q_lt ht) (pow_le (by have := cS_le (n := n) (b := b) (t := t) (by omega); omega))
/-- the chances of a stage, over what is told of them -/
theorem WkS.ch_red (h : WkS b n M) {t : Nat} (ht : t < n) {i j : Nat} (hi : i < n - t) (hj : j < n - t) : ∃ x, x ≤ sN n (mf M i) * qN n (mf M) t ∧ chQ (n - t) (stg n (mf M) t) i j = fQ x / fQ (sN n (mf M i) * qN n (mf M) t) := by
  obtain ⟨c, c0, h1, h2⟩ := stg_num h.st h.n1 ht
  obtain ⟨x, e, hx⟩ := h1 i j hi hj
  refine ⟨x, hx, ?_⟩
  unfold chQ
  rw [e, h2 i hi, fQ_mul, fQ_mul]
  have z1 := fQ_ne c0
  have z2 := fQ_ne (Nat.mul_pos (h.p i (by omega)) (h.q_pos ht))
  generalize fQ (sN n (mf M i) * qN n (mf M) t) = a at *
  generalize fQ c = b at *
  generalize fQ x = d
  grind
theorem WkS.d_lt (h : WkS b n M) {t i : Nat} (ht : t < n) (hi : i < n - t) : sN n (mf M i) * qN n (mf M) t < 2 ^ (1 + bS n b) :=
  mul_lt2 (h.rs_lt (by omega)) (h.q_lt ht) (by have := cS_row (n := n) (b := b) ht hi; omega)
theorem WkS.d_pos (h : WkS b n M) {t i : Nat} (ht : t < n) (hi : i < n) : 0 < sN n (mf M i) * qN n (mf M) t := Nat.mul_pos (h.p i hi) (h.q_pos ht)
theorem WkS.ch_sz2 (h : WkS b n M) {l i j : Nat} (h1 : 1 ≤ l) (hl : l < n) (hi : i ≤ l) (hj : j ≤ l) : Bq.Sz (1 + bS n b) (chQ (l + 1) (stg n (mf M) (n - 1 - l)) i j) := by
  obtain ⟨x, hx, e⟩ := h.ch_red (t := n - 1 - l) (i := i) (j := j) (by omega) (by omega) (by omega)
  have el : n - (n - 1 - l) = l + 1 := by omega
  rw [el] at e
  rw [e]
  have d := h.d_lt (t := n - 1 - l) (i := i) (by omega) (by omega)
  exact fQ_sz (Nat.lt_of_le_of_lt hx d) d (h.d_pos (by omega) (by omega))
/-- what goes to those ahead: no sum on the way is longer -/
theorem WkS.ch_part (h : WkS b n M) {l i : Nat} (h1 : 1 ≤ l) (hl : l < n) (hi : i ≤ l) {k : Nat} (hk : k ≤ l) : Bq.Sz (1 + bS n b) (Bq.sumQ ((List.range k).map fun j => chQ (l + 1) (stg n (mf M) (n - 1 - l)) i j)) := by
  obtain ⟨c, c0, e1, e2⟩ := stg_num h.st h.n1 (show n - 1 - l < n by omega)
  have el : n - (n - 1 - l) = l + 1 := by omega
  rw [el] at e1 e2
  have e3 := sumQ_div (stg n (mf M) (n - 1 - l) i) (fQ (sN (l + 1) (stg n (mf M) (n - 1 - l) i))) k
  have e4 : Bq.sumQ ((List.range k).map fun j => chQ (l + 1) (stg n (mf M) (n - 1 - l)) i j) = fQ (sN k (stg n (mf M) (n - 1 - l) i)) / fQ (sN (l + 1) (stg n (mf M) (n - 1 - l) i)) := e3
  have dv : ∀ m, m ≤ l + 1 → ∃ x, sN m (stg n (mf M) (n - 1 - l) i) = c * x := fun m => by
    induction m with
    | zero => exact fun _ => ⟨0, by simp [sN]⟩
    | succ m ih =>
      intro hm
      obtain ⟨x, hx⟩ := ih (by omega)
      obtain ⟨y, hy, _⟩ := e1 i m (by omega) (by omega)
      exact ⟨x + y, by rw [sN, hx, hy, Nat.mul_add]⟩
  obtain ⟨x, hx⟩ := dv k (by omega)
  have le : sN k (stg n (mf M) (n - 1 - l) i) ≤ sN (l + 1) (stg n (mf M) (n - 1 - l) i) := by
    have := sN_two (f := stg n (mf M) (n - 1 - l) i) (t := k) (j := k) (n := l + 1) (Nat.le_refl _) (by omega)
    omega
  have d := h.d_lt (t := n - 1 - l) (i := i) (by omega) (by omega)
  have d0 := h.d_pos (t := n - 1 - l) (i := i) (by omega) (by omega)
  rw [e2 i (by omega), hx] at le
  have le2 : x ≤ sN n (mf M i) * qN n (mf M) (n - 1 - l) := Nat.le_of_mul_le_mul_left le c0
  rw [e4, e2 i (by omega), hx]
  have e5 : fQ (c * x) / fQ (c * (sN n (mf M i) * qN n (mf M) (n - 1 - l))) = fQ x / fQ (sN n (mf M i) * qN n (mf M) (n - 1 - l)) := by
    rw [fQ_mul, fQ_mul]
    have z1 := fQ_ne c0
    have z2 := fQ_ne d0
    generalize fQ (sN n (mf M i) * qN n (mf M) (n - 1 - l)) = a at *
    generalize fQ c = b at *
    generalize fQ x = d
    grind
  rw [e5]
  exact fQ_sz (Nat.lt_of_le_of_lt le2 d) d d0
theorem WkS.st2 (h : WkS b n M) {l : Nat} (hl : l < n) : StrN (l + 1) (stg n (mf M) (n - 1 - l)) := by
  have z := stg_str h.st (n - 1 - l) (by omega)
  have e : n - (n - 1 - l) = l + 1 := by omega
  rw [e] at z
  exact z
/-- what goes from the last place to those ahead, over what is told of it -/
theorem WkS.go_red (h : WkS b n M) {l : Nat} (h1 : 1 ≤ l) (hl : l < n) : fQ (gN (stg n (mf M) (n - 1 - l)) l) / fQ (sN (l + 1) (stg n (mf M) (n - 1 - l) l)) = fQ (qN n (mf M) (n - l)) / fQ (sN n (mf M l) * qN n (mf M) (n - 1 - l)) := by
  obtain ⟨c, c0, e1, e2⟩ := stg_red h.st h.n1 (n - 1 - l) (by omega)
  have el : n - (n - 1 - l) = l + 1 := by omega
  have el2 : n - 1 - (n - 1 - l) - l = 0 := by omega
  rw [el] at e1 e2
  have e3 := e1 l l (by omega) (by omega)
  rw [el2] at e3
  have e4 := e2 l (by omega)
  have e5 : lap (l + 1) (stg n (mf M) (n - 1 - l)) l l = ((gN (stg n (mf M) (n - 1 - l)) l : Nat) : Int) := by
    unfold lap
    rw [if_pos rfl]
    show (((gN (stg n (mf M) (n - 1 - l)) l + stg n (mf M) (n - 1 - l) l l : Nat)) : Int) - _ = _
    omega
  have e6 := (qN_eq h.st h.n1 (show n - l < n by omega)).1
  have e7 : n - l = n - 1 - l + 1 := by omega
  rw [e5] at e3
  have e8 : gN (stg n (mf M) (n - 1 - l)) l = c * qN n (mf M) (n - l) := by
    have : ((gN (stg n (mf M) (n - 1 - l)) l : Nat) : Int) = ((c * qN n (mf M) (n - l) : Nat) : Int) := by
      rw [e3, Int.natCast_mul, e6, e7, bq_succ]
    exact Int.ofNat.inj this
  rw [e8, e4, fQ_mul, fQ_mul]
  have z1 := fQ_ne c0
  have z2 := fQ_ne (h.d_pos (t := n - 1 - l) (i := l) (by omega) hl)
  generalize fQ (sN n (mf M l) * qN n (mf M) (n - 1 - l)) = a at *
  generalize fQ c = b at *
  generalize fQ (qN n (mf M) (n - l)) = d
  grind
theorem WkS.go_sz (h : WkS b n M) {l : Nat} (h1 : 1 ≤ l) (hl : l < n) : Bq.Sz (1 + bS n b) (fQ (gN (stg n (mf M) (n - 1 - l)) l) / fQ (sN (l + 1) (stg n (mf M) (n - 1 - l) l))) := by
  rw [h.go_red h1 hl]
  exact fQ_sz (h.q_ltS (by omega)) (h.d_lt (by omega) (by omega)) (h.d_pos (by omega) hl)
theorem WkS.go_pos (h : WkS b n M) {l : Nat} (h1 : 1 ≤ l) (hl : l < n) : 0 < fQ (gN (stg n (mf M) (n - 1 - l)) l) / fQ (sN (l + 1) (stg n (mf M) (n - 1 - l) l)) :=
  div_pos (fQ_pos (g_pos (h.st2 hl) h1)) (fQ_pos (out_pos (h.st2 hl) (by omega) (by omega)))
theorem WkS.bk_red (h : WkS b n M) {l : Nat} (h1 : 1 ≤ l) (hl : l < n) {i : Nat} (hi : i < l) : ∃ x, x ≤ sN n (mf M i) * qN n (mf M) (n - 1 - l) ∧ bkQ l (stg n (mf M) (n - 1 - l)) i = fQ (x * sN n (mf M l)) / fQ (sN n (mf M i) * qN n (mf M) (n - l)) := by
  obtain ⟨x, hx, e⟩ := h.ch_red (t := n - 1 - l) (i := i) (j := l) (by omega) (by omega) (by omega)
  refine ⟨x, hx, ?_⟩
  have el : n - (n - 1 - l) = l + 1 := by omega
  rw [el] at e
  unfold bkQ
  rw [e, h.go_red h1 hl, fQ_mul, fQ_mul, fQ_mul, fQ_mul]
  have z1 := fQ_ne (h.p i (by omega))
  have z2 := fQ_ne (h.p l hl)
  have z3 := fQ_ne (h.q_pos (t := n - 1 - l) (by omega))
  have z4 := fQ_ne (h.q_pos (t := n - l) (by omega))
  generalize fQ (sN n (mf M i)) = a at *
  generalize fQ (sN n (mf M l)) = b at *
  generalize fQ (qN n (mf M) (n - 1 - l)) = c at *
  generalize fQ (qN n (mf M) (n - l)) = d at *
  generalize fQ x = f
  grind
theorem WkS.bk_sz (h : WkS b n M) {l : Nat} (h1 : 1 ≤ l) (hl : l < n) {i : Nat} (hi : i < l) : Bq.Sz (1 + bS n b) (bkQ l (stg n (mf M) (n - 1 - l)) i) := by
  obtain ⟨x, hx, e⟩ := h.bk_red h1 hl hi
  rw [e]
  have cr := cS_row (n := n) (b := b) (t := n - l) (i := i) (by omega) (by omega)
  have cs := cS_succ (n := n) (b := b) (t := n - 1 - l) (by omega)
  have q1 : n - 1 - l + 1 = n - l := by omega
  have q2 : n - 1 - (n - 1 - l) = l := by omega
  rw [q1, q2] at cs
  have d1 : sN n (mf M i) * qN n (mf M) (n - 1 - l) < 2 ^ (1 + (b i + 3) + cS n b (n - 1 - l)) := mul_lt2 (h.rs_lt (by omega)) (h.q_lt (by omega)) (by omega)
  exact fQ_sz (mul_lt2 (Nat.lt_of_le_of_lt hx d1) (h.rs_lt hl) (by omega)) (h.d_lt (by omega) (by omega)) (h.d_pos (by omega) (by omega))
end
/-! ### trees into each place -/
def wN (n : Nat) (M : Nat → Nat → Nat) (i : Nat) : Nat := (wZ n M i).toNat
section
variable {b : Nat → Nat} {n : Nat} {M : List (List Nat)}
theorem WkS.w_eq (h : WkS b n M) {i : Nat} (hi : i < n) : ((wN n (mf M) i : Nat) : Int) = wZ n (mf M) i ∧ 0 < wN n (mf M) i := by
  have := wZ_pos h.st hi
  unfold wN
  omega
theorem WkS.w_lt (h : WkS b n M) {i : Nat} (hi : i < n) : ∃ e, wN n (mf M) i < 2 ^ (1 + e) ∧ e + (b i + 3) = bS n b := by
  obtain ⟨k, hk⟩ : ∃ k, n = k + 1 := ⟨n - 1, by omega⟩
  have g : Gd k (no i (lap (k + 1) (mf M))) := no_good (by rw [← hk]; exact h.st) (by omega)
  have e1 := g.det_le
  have e2 := g.det
  have e3 := pZ_ltr (f := fun r => no i (lap (k + 1) (mf M)) r r) (c := fun r => b (sk i r) + 3) (n := k) fun r hr => by
    show (lap (k + 1) (mf M) (sk i r) (sk i r)).natAbs < 2 ^ (b (sk i r) + 3)
    have := h.rs_lt (i := sk i r) (by rw [hk]; exact sk_lt hr)
    rw [hk] at this
    have h5 := sN_ge (f := mf M (sk i r)) (n := k + 1) (x := sk i r) (sk_lt hr)
    unfold lap
    rw [if_pos rfl]
    omega
  have e4 := h.w_eq hi
  have e5 := sN_skip (fun i => b i + 3) i k (by omega)
  unfold wZ at e4
  rw [hk, Nat.add_sub_cancel] at e4
  refine ⟨sN k fun r => b (sk i r) + 3, ?_, ?_⟩
  · rw [hk]
    omega
  · show _ = sN n fun i => b i + 3
    rw [hk, e5]
    omega
theorem WkS.w_sol (h : WkS b n M) {i j : Nat} (hi : i < n) (hj : j < n) : wN n (mf M) i * sol n (mf M) j = wN n (mf M) j * sol n (mf M) i := by
  have e := wZ_sol h.st hi hj
  rw [← (h.w_eq hi).1, ← (h.w_eq hj).1] at e
  exact_mod_cast e
/-- the trees' sum into a place times what goes out of it -/
def pW (n : Nat) (M : List (List Nat)) (i : Nat) : Nat := wN n (mf M) i * sN n (mf M i)
def allW (n : Nat) (M : List (List Nat)) : Nat := sN n (pW n M)
theorem WkS.pW_pos (h : WkS b n M) {i : Nat} (hi : i < n) : 0 < pW n M i := Nat.mul_pos (h.w_eq hi).2 (h.p i hi)
theorem WkS.pW_lt (h : WkS b n M) {i : Nat} (hi : i < n) : pW n M i < 2 ^ (1 + bS n b) := by
  obtain ⟨e, h1, h2⟩ := h.w_lt hi
  exact mul_lt2 h1 (h.rs_lt hi) (by omega)
theorem WkS.wM_lt (h : WkS b n M) {i j : Nat} (hi : i < n) (hj : j < n) : wN n (mf M) i * mf M i j < 2 ^ (bS n b - 2) := by
  obtain ⟨e, h1, h2⟩ := h.w_lt hi
  exact mul_lt2 h1 (h.k i j hi hj) (by omega)
theorem WkS.allW_lt (h : WkS b n M) : allW n M < 2 ^ (4 + bS n b) := by
  have := sN_bits (f := pW n M) h.n6 fun i hi => h.pW_lt hi
  have e : 1 + bS n b + 3 = 4 + bS n b := by omega
  rw [e] at this
  exact this
theorem WkS.allW_pos (h : WkS b n M) : 0 < allW n M := sN_pos (i := 0) (by have := h.n1; omega) (h.pW_pos (by have := h.n1; omega))
theorem WkS.pN_pos (h : WkS b n M) {i : Nat} (hi : i < n) : 0 < pN n (mf M) i := Nat.mul_pos (sol_pos h.st i hi) (h.p i hi)
theorem WkS.all_pos (h : WkS b n M) : 0 < allN n M := sN_pos (i := 0) (by have := h.n1; omega) (h.pN_pos (by have := h.n1; omega))
/-- both are one but for a factor -/
theorem WkS.pW_sol (h : WkS b n M) {i j : Nat} (hi : i < n) (hj : j < n) : pW n M i * sol n (mf M) j = wN n (mf M) j * pN n (mf M) i := by
  have e := h.w_sol hi hj
  unfold pW pN
  rw [Nat.mul_right_comm, e, Nat.mul_assoc]
theorem WkS.pW_pN (h : WkS b n M) {i j : Nat} (hi : i < n) (hj : j < n) : pW n M i * pN n (mf M) j = pW n M j * pN n (mf M) i := by
  have e := h.w_sol hi hj
  unfold pW pN
  generalize wN n (mf M) i = a at *
  generalize wN n (mf M) j = b at *
  generalize sol n (mf M) i = c at *
  generalize sol n (mf M) j = d at *
  generalize sN n (mf M i) = s
  generalize sN n (mf M j) = t
  have : a * s * (d * t) = (a * d) * (s * t) := by grind
  rw [this, e]
  grind
theorem sN_mulL (c : Nat) (f : Nat → Nat) (n : Nat) : sN n (fun j => c * f j) = c * sN n f := by
  have := sN_mul f c n
  rw [Nat.mul_comm c, ← this]
  exact sN_congr fun j _ => Nat.mul_comm _ _
theorem WkS.allW_pN (h : WkS b n M) {i : Nat} (hi : i < n) : pW n M i * allN n M = allW n M * pN n (mf M) i := by
  unfold allN allW
  rw [← sN_mulL, ← sN_mul]
  exact sN_congr fun j hj => h.pW_pN hi hj
theorem ratio_eq {a b c d : Nat} (hb : 0 < b) (hd : 0 < d) (e : a * d = c * b) : fQ a / fQ b = fQ c / fQ d := by
  have e2 : fQ a * fQ d = fQ c * fQ b := by rw [← fQ_mul, ← fQ_mul, e]
  have z1 := fQ_ne hb
  have z2 := fQ_ne hd
  generalize fQ a = a' at *
  generalize fQ b = b' at *
  generalize fQ c = c' at *
  generalize fQ d = d' at *
  grind
theorem WkS.sh_eq (h : WkS b n M) {i : Nat} (hi : i < n) : shQ n M i = fQ (pW n M i) / fQ (allW n M) := by
  unfold shQ
  refine ratio_eq h.all_pos h.allW_pos ?_
  rw [h.allW_pN hi, Nat.mul_comm]
theorem WkS.found_eq2 (h : WkS b n M) {i : Nat} (hi : i < n) : fQ (pN n (mf M) i) / fQ (pN n (mf M) 0) = fQ (pW n M i) / fQ (pW n M 0) := by
  have h0 : 0 < n := by omega
  refine ratio_eq (h.pN_pos h0) (h.pW_pos h0) ?_
  have := h.pW_pN hi h0
  rw [this, Nat.mul_comm]
theorem WkS.found_sz (h : WkS b n M) {i : Nat} (hi : i < n) : Bq.Sz (1 + bS n b) (fQ (pN n (mf M) i) / fQ (pN n (mf M) 0)) := by
  rw [h.found_eq2 hi]
  exact fQ_sz (h.pW_lt hi) (h.pW_lt (by omega)) (h.pW_pos (by omega))
theorem WkS.found_part (h : WkS b n M) {k : Nat} (hk : k ≤ n) : Bq.Sz (4 + bS n b) (Bq.sumQ ((List.range k).map fun i => fQ (pN n (mf M) i) / fQ (pN n (mf M) 0))) := by
  have n1 := h.n1
  have e : ((List.range k).map fun i => fQ (pN n (mf M) i) / fQ (pN n (mf M) 0)) = (List.range k).map fun i => fQ (pW n M i) / fQ (pW n M 0) := List.map_congr_left fun i hi => h.found_eq2 (by have := List.mem_range.mp hi; omega)
  rw [e, sumQ_div (pW n M) (fQ (pW n M 0)) k]
  have le : sN k (pW n M) ≤ allW n M := by
    by_cases c : k = n
    · rw [c]
      exact Nat.le_refl _
    · have := sN_two (f := pW n M) (t := k) (j := k) (n := n) (Nat.le_refl _) (by omega)
      unfold allW
      omega
  exact fQ_sz (Nat.lt_of_le_of_lt le h.allW_lt) (Nat.lt_of_lt_of_le (h.pW_lt (by omega)) (pow_le (by omega))) (h.pW_pos (by omega))
/-- what comes to a place that is put in again, over one number below -/
theorem WkS.term_red (h : WkS b n M) {l : Nat} (h1 : 1 ≤ l) (hl : l < n) : ∃ f : Nat → Nat, (∀ i, i < l → fQ (pN n (mf M) i) / fQ (pN n (mf M) 0) * bkQ l (stg n (mf M) (n - 1 - l)) i = fQ (f i) / fQ (pW n M 0 * qN n (mf M) (n - l))) ∧ sN l f = pW n M l * qN n (mf M) (n - l) := by
  have z3 := fQ_ne (h.pW_pos (i := 0) (by omega))
  have z4 := fQ_ne (h.q_pos (t := n - l) (by omega))
  have each : ∀ i, i < l → ∃ y, fQ (pN n (mf M) i) / fQ (pN n (mf M) 0) * bkQ l (stg n (mf M) (n - 1 - l)) i = fQ y / fQ (pW n M 0 * qN n (mf M) (n - l)) := fun i hi => by
    obtain ⟨x, hx, e⟩ := h.bk_red h1 hl hi
    refine ⟨wN n (mf M) i * (x * sN n (mf M l)), ?_⟩
    rw [h.found_eq2 (by omega), e]
    have z1 := fQ_ne (h.p i (by omega))
    have : fQ (pW n M i) = fQ (wN n (mf M) i) * fQ (sN n (mf M i)) := fQ_mul _ _
    rw [this, fQ_mul (sN n (mf M i)), fQ_mul (pW n M 0), fQ_mul (wN n (mf M) i)]
    generalize fQ (sN n (mf M i)) = a at *
    generalize fQ (pW n M 0) = b at *
    generalize fQ (qN n (mf M) (n - l)) = c at *
    generalize fQ (wN n (mf M) i) = d
    generalize fQ (x * sN n (mf M l)) = f
    grind
  let f : Nat → Nat := fun i => if hi : i < l then Classical.choose (each i hi) else 0
  have hf : ∀ i, i < l → fQ (pN n (mf M) i) / fQ (pN n (mf M) 0) * bkQ l (stg n (mf M) (n - 1 - l)) i = fQ (f i) / fQ (pW n M 0 * qN n (mf M) (n - l)) := fun i hi => by
    have e : f i = Classical.choose (each i hi) := dif_pos hi
    rw [e]
    exact Classical.choose_spec (each i hi)
  refine ⟨f, hf, ?_⟩
  have st := h.st2 hl
  have e1 := found_eq st h1 (fQ (pN n (mf M) 0))
  have zz : ∀ j, j ≤ l → pN (l + 1) (stg n (mf M) (n - 1 - l)) j = pN n (mf M) j := fun j hj => by
    have z := pN_stg (n := n) (M := mf M) (n - 1 - l) (by omega) j (by omega)
    have e : n - (n - 1 - l) = l + 1 := by omega
    rw [e] at z
    exact z
  have e2 : ((List.range l).map fun i => fQ (pN (l + 1) (stg n (mf M) (n - 1 - l)) i) / fQ (pN n (mf M) 0) * bkQ l (stg n (mf M) (n - 1 - l)) i) = (List.range l).map fun i => fQ (f i) / fQ (pW n M 0 * qN n (mf M) (n - l)) := List.map_congr_left fun i hi => by
    rw [zz i (by have := List.mem_range.mp hi; omega)]
    exact hf i (List.mem_range.mp hi)
  rw [e2, sumQ_div f (fQ (pW n M 0 * qN n (mf M) (n - l))) l, zz l (Nat.le_refl _), h.found_eq2 hl] at e1
  refine fQ_inj ?_
  rw [fQ_mul] at e1 ⊢
  generalize fQ (sN l f) = a at *
  generalize fQ (pW n M 0) = b at *
  generalize fQ (qN n (mf M) (n - l)) = c at *
  generalize fQ (pW n M l) = d at *
  grind
theorem WkS.term_sz (h : WkS b n M) {l : Nat} (h1 : 1 ≤ l) (hl : l < n) : (∀ i, i < l → Bq.Sz (2 + 2 * bS n b) (fQ (pN n (mf M) i) / fQ (pN n (mf M) 0) * bkQ l (stg n (mf M) (n - 1 - l)) i)) ∧
    ∀ k, k ≤ l → Bq.Sz (2 + 2 * bS n b) (Bq.sumQ ((List.range k).map fun i => fQ (pN n (mf M) i) / fQ (pN n (mf M) 0) * bkQ l (stg n (mf M) (n - 1 - l)) i)) := by
  obtain ⟨f, hf, hs⟩ := h.term_red h1 hl
  have d : pW n M 0 * qN n (mf M) (n - l) < 2 ^ (2 + 2 * bS n b) := mul_lt2 (h.pW_lt (by omega)) (h.q_ltS (by omega)) (by omega)
  have d0 : 0 < pW n M 0 * qN n (mf M) (n - l) := Nat.mul_pos (h.pW_pos (by omega)) (h.q_pos (by omega))
  have u : sN l f < 2 ^ (2 + 2 * bS n b) := by
    rw [hs]
    exact mul_lt2 (h.pW_lt hl) (h.q_ltS (by omega)) (by omega)
  refine ⟨fun i hi => ?_, fun k hk => ?_⟩
  · rw [hf i hi]
    have := sN_ge (f := f) hi
    exact fQ_sz (by omega) d d0
  · have e : ((List.range k).map fun i => fQ (pN n (mf M) i) / fQ (pN n (mf M) 0) * bkQ l (stg n (mf M) (n - 1 - l)) i) = (List.range k).map fun i => fQ (f i) / fQ (pW n M 0 * qN n (mf M) (n - l)) := List.map_congr_left fun i hi => hf i (by have := List.mem_range.mp hi; omega)
    rw [e, sumQ_div f _ k]
    have le : sN k f ≤ sN l f := by
      by_cases c : k = l
      · rw [c]
        exact Nat.le_refl _
      · have := sN_two (f := f) (t := k) (j := k) (n := l) (Nat.le_refl _) (by omega)
        omega
    exact fQ_sz (by omega) d d0
theorem WkS.sh_sz (h : WkS b n M) {i : Nat} (hi : i < n) : Bq.Sz (4 + bS n b) (shQ n M i) := by
  rw [h.sh_eq hi]
  exact fQ_sz (Nat.lt_of_lt_of_le (h.pW_lt hi) (pow_le (by omega))) h.allW_lt h.allW_pos
theorem WkS.sh_pos (h : WkS b n M) {i : Nat} (hi : i < n) : 0 < shQ n M i := by
  unfold shQ
  exact div_pos (fQ_pos (h.pN_pos hi)) (fQ_pos h.all_pos)
theorem WkS.fl_eq (h : WkS b n M) {i : Nat} (hi : i < n) (j : Nat) : shQ n M i * chQ n (mf M) i j = fQ (flN n M i j) / fQ (allN n M) := by
  have r := fQ_ne (h.p i hi)
  unfold shQ chQ pN flN
  rw [fQ_mul, fQ_mul]
  generalize fQ (sN n (mf M i)) = a at *
  grind
theorem WkS.fl_eq2 (h : WkS b n M) {i : Nat} (hi : i < n) (j : Nat) : fQ (flN n M i j) / fQ (allN n M) = fQ (wN n (mf M) i * mf M i j) / fQ (allW n M) := by
  refine ratio_eq h.all_pos h.allW_pos ?_
  have e := h.allW_pN hi
  unfold flN
  unfold pW pN at e
  have s0 := h.p i hi
  have e2 : sN n (mf M i) * (wN n (mf M) i * allN n M) = sN n (mf M i) * (allW n M * sol n (mf M) i) := by
    generalize sN n (mf M i) = s at *
    generalize allN n M = x at *
    generalize allW n M = y at *
    grind
  have e3 := Nat.eq_of_mul_eq_mul_left s0 e2
  generalize allN n M = x at *
  generalize allW n M = y at *
  generalize wN n (mf M) i = a at *
  generalize sol n (mf M) i = b at *
  grind
theorem WkS.fl_sz (h : WkS b n M) {i j : Nat} (hi : i < n) (hj : j < n) : Bq.Sz (4 + bS n b) (fQ (flN n M i j) / fQ (allN n M)) := by
  rw [h.fl_eq2 hi j]
  exact fQ_sz (Nat.lt_of_lt_of_le (h.wM_lt hi hj) (pow_le (by omega))) h.allW_lt h.allW_pos
theorem WkS.b_le (h : WkS b n M) {i : Nat} (hi : i < n) : b i + 3 ≤ bS n b := sN_ge (f := fun i => b i + 3) hi
theorem WkS.ch0 (h : WkS b n M) {i j : Nat} (hi : i < n) (hj : j < n) : Bq.Sz (bS n b) (chQ n (mf M) i j) :=
  (fQ_sz (Nat.lt_of_lt_of_le (h.k i j hi hj) (pow_le (by omega))) (h.rs_lt hi) (h.p i hi) : Bq.Sz (b i + 3) _).mono (h.b_le hi)
theorem WkS.sh_one (h : WkS b n M) : Bq.sumQ ((List.range n).map (shQ n M)) = 1 := by
  have h1 := sumQ_div (pN n (mf M)) (fQ (allN n M)) n
  have h2 := fQ_ne h.all_pos
  show Bq.sumQ ((List.range n).map fun j => fQ (pN n (mf M) j) / fQ (allN n M)) = 1
  rw [h1]
  show fQ (allN n M) / fQ (allN n M) = 1
  grind
/-! ### the walk backwards -/
def bwM (n : Nat) (M : List (List Nat)) : List (List Nat) := (List.range n).map fun i => (List.range n).map fun j => wN n (mf M) j * mf M j i
theorem bwM_at {i j : Nat} (hi : i < n) (hj : j < n) : mf (bwM n M) i j = wN n (mf M) j * mf M j i := by
  have e : (bwM n M)[i]? = some ((List.range n).map fun j => wN n (mf M) j * mf M j i) := by
    unfold bwM
    rw [List.getElem?_map, List.getElem?_range hi]
    rfl
  rw [mf_row e]
  show ((List.range n).map fun j => wN n (mf M) j * mf M j i).getD j 0 = _
  rw [List.getD_eq_getElem?_getD, List.getElem?_map, List.getElem?_range hj]
  rfl
theorem WkS.w_bal (h : WkS b n M) {i : Nat} (hi : i < n) : sN n (fun j => wN n (mf M) j * mf M j i) = pW n M i := by
  have b := sol_bal (mf M) h.n1 i hi
  have e : ∀ j, j < n → wN n (mf M) j * mf M j i * sol n (mf M) i = wN n (mf M) i * (sol n (mf M) j * mf M j i) := fun j hj => by
    have := h.w_sol hj hi
    rw [Nat.mul_right_comm, this, Nat.mul_assoc]
  have e2 : sN n (fun j => wN n (mf M) j * mf M j i) * sol n (mf M) i = pW n M i * sol n (mf M) i := by
    rw [← sN_mul, sN_congr fun j hj => e j hj, sN_mulL, b]
    unfold pW
    rw [Nat.mul_right_comm, Nat.mul_assoc]
  exact Nat.eq_of_mul_eq_mul_right (sol_pos h.st i hi) e2
theorem WkS.bw_sum (h : WkS b n M) {i : Nat} (hi : i < n) : sN n (mf (bwM n M) i) = pW n M i := by
  rw [← h.w_bal hi]
  exact sN_congr fun j hj => bwM_at hi hj
theorem WkS.bw_ch (h : WkS b n M) {i j : Nat} (hi : i < n) (hj : j < n) : chQ n (mf (bwM n M)) i j = fQ (wN n (mf M) j * mf M j i) / fQ (pW n M i) := by
  unfold chQ
  rw [bwM_at hi hj, h.bw_sum hi]
/-- backwards: the flow the other way over the share -/
theorem WkS.bw_fl (h : WkS b n M) {i j : Nat} (hi : i < n) (hj : j < n) : fQ (flN n M j i) / fQ (allN n M) / shQ n M i = chQ n (mf (bwM n M)) i j := by
  rw [h.fl_eq2 hj i, h.sh_eq hi, h.bw_ch hi hj]
  have z1 := fQ_ne h.allW_pos
  have z2 := fQ_ne (h.pW_pos hi)
  generalize fQ (allW n M) = a at *
  generalize fQ (pW n M i) = b at *
  generalize fQ (wN n (mf M) j * mf M j i) = c
  grind
theorem WkS.bw_str (h : WkS b n M) : StrN n (mf (bwM n M)) := by
  intro a b ha hb
  have r := Reach.back (E := fun x y => EdN n (mf M) y x) (h.st b a hb ha)
  refine Reach.mono (fun x y e => ?_) r
  obtain ⟨e1, e2, e3⟩ := e
  refine ⟨e2, e1, ?_⟩
  rw [bwM_at e2 e1]
  exact Nat.mul_pos (h.w_eq e1).2 e3
theorem WkS.bw (h : WkS b n M) (hC : n * (bS n b + 1) ≤ 2200) : WkS (fun _ => bS n b - 2) n (bwM n M) := by
  have b3 := h.b_le (i := 0) (by have := h.n1; omega)
  refine ⟨h.n1, h.n6, ?_, by unfold bwM; simp, fun row hr => ?_, fun i j hi hj => ?_, h.bw_str, fun i hi => by rw [h.bw_sum hi]; exact h.pW_pos hi⟩
  · rw [sN_cst]
    have : bS n b - 2 + 3 = bS n b + 1 := by omega
    rw [this]
    exact hC
  · unfold bwM at hr
    obtain ⟨i, _, rfl⟩ := List.mem_map.mp hr
    simp
  · rw [bwM_at hi hj]
    exact h.wM_lt hj hi
theorem bw_col (h : WkS b n M) {j : Nat} (hj : j < n) : sN n (fun i => mf (bwM n M) i j) = sN n (mf (bwM n M) j) := by
  rw [h.bw_sum hj]
  have e : sN n (fun i => mf (bwM n M) i j) = sN n (fun i => wN n (mf M) j * mf M j i) := sN_congr fun i hi => bwM_at hi hj
  rw [e, sN_mulL]
  rfl
/-- it has the same shares -/
theorem WkS.bw_sh (h : WkS b n M) {c : Nat → Nat} (hb : WkS c n (bwM n M)) {i : Nat} (hi : i < n) : shQ n (bwM n M) i = shQ n M i := by
  have one : ∀ j, j < n → sZ n (fun i => (1 : Int) * lap n (mf (bwM n M)) i j) = 0 := fun j hj => by
    have e : (fun i => (1 : Int) * lap n (mf (bwM n M)) i j) = fun i => (if j = i then ((sN n (mf (bwM n M) j) : Nat) : Int) else 0) + (-1) * ((mf (bwM n M) i j : Nat) : Int) := by
      funext i
      unfold lap
      by_cases c : i = j
      · rw [if_pos c, if_pos c.symm, c]
        omega
      · rw [if_neg c, if_neg fun z => c z.symm]
        omega
    rw [e, sZ_lin, sZ_one (a := j) hj fun i _ ne => if_neg (Ne.symm ne), if_pos rfl, sZ_nat, bw_col h hj]
    omega
  have key : ∀ a b, a < n → b < n → sol n (mf (bwM n M)) a = sol n (mf (bwM n M)) b := fun a b ha hb' => by
    have := rest_one hb.st (x := fun i => (sol n (mf (bwM n M)) i : Int)) (y := fun _ => 1) (fun _ _ => by omega) (fun j hj => sol_rest hj) one ha hb'
    omega
  unfold shQ
  have e1 : ∀ j, j < n → pN n (mf (bwM n M)) j = sol n (mf (bwM n M)) 0 * pW n M j := fun j hj => by
    unfold pN
    rw [h.bw_sum hj, key j 0 hj (by omega)]
  have e2 : allN n (bwM n M) = sol n (mf (bwM n M)) 0 * allW n M := by
    unfold allN allW
    rw [← sN_mulL]
    exact sN_congr e1
  have s0 := sol_pos hb.st 0 (by omega)
  refine ratio_eq hb.all_pos h.all_pos ?_
  rw [e1 i hi, e2, Nat.mul_assoc, h.allW_pN hi]
  generalize sol n (mf (bwM n M)) 0 = a
  generalize allW n M = b
  generalize pN n (mf M) i = c
  grind
end
end Bw
set_option exponentiation.threshold 4000
/-! Part 33. The walk by toss is such a walk, and its own walk backwards. Plain mathematics. -/
namespace Bw
theorem WkS.wide {b c : Nat → Nat} {n : Nat} {M : List (List Nat)} (h : WkS b n M) (hb : ∀ i, i < n → b i ≤ c i) (hS : bS n c ≤ 2200) : WkS c n M :=
  ⟨h.n1, h.n6, hS, h.l, h.r, fun i j hi hj => Nat.lt_of_lt_of_le (h.k i j hi hj) (pow_le (hb i hi)), h.st, h.p⟩
/-- a walk drawn from a square of numbers below 2 ^ B -/
abbrev WkB (B n : Nat) (M : List (List Nat)) : Prop := WkS (fun _ => B) n M
section
variable {B n : Nat} {M : List (List Nat)}
theorem bS_cst (n B : Nat) : bS n (fun _ => B) = n * (B + 3) := sN_cst (B + 3) n
theorem WkB.lim (h : WkB B n M) : n * (B + 3) ≤ 2200 := by
  have := WkS.hS h
  rwa [show (sN n fun i => (fun _ => B) i + 3) = n * (B + 3) from bS_cst n B] at this
theorem WkB.rs_lt (h : WkB B n M) {i : Nat} (hi : i < n) : sN n (mf M i) < 2 ^ (B + 3) := WkS.rs_lt h hi
theorem WkB.k (h : WkB B n M) (i j : Nat) (hi : i < n) (hj : j < n) : mf M i j < 2 ^ B := WkS.k h i j hi hj
theorem WkB.ch0B (h : WkB B n M) {i j : Nat} (hi : i < n) (hj : j < n) : Bq.Sz (B + 3) (chQ n (mf M) i j) :=
  fQ_sz (Nat.lt_of_lt_of_le (h.k i j hi hj) (pow_le (by omega))) (h.rs_lt hi) (h.p i hi)
theorem WkB.w_lt (h : WkB B n M) {i : Nat} (hi : i < n) : wN n (mf M) i < 2 ^ (1 + (n - 1) * (B + 3)) := by
  obtain ⟨e, h1, h2⟩ := WkS.w_lt h hi
  have h3 : e + (B + 3) = n * (B + 3) := h2.trans (bS_cst n B)
  obtain ⟨k, rfl⟩ : ∃ k, n = k + 1 := ⟨n - 1, by omega⟩
  rw [Nat.succ_mul] at h3
  rw [Nat.add_sub_cancel]
  have : e = k * (B + 3) := by omega
  rw [← this]
  exact h1
theorem WkB.sh_szB (h : WkB B n M) {i : Nat} (hi : i < n) : Bq.Sz (4 + n * (B + 3)) (shQ n M i) := by
  have := WkS.sh_sz h hi
  rwa [bS_cst] at this
theorem WkB.fl_szB (h : WkB B n M) {i j : Nat} (hi : i < n) (hj : j < n) : Bq.Sz (4 + n * (B + 3)) (fQ (flN n M i j) / fQ (allN n M)) := by
  have := WkS.fl_sz h hi hj
  rwa [bS_cst] at this
end
/-! ### squares alike both ways -/
section
variable {b : Nat → Nat} {n : Nat} {T : List (List Nat)}
theorem WkS.sy_col (h : WkS b n T) (sy : ∀ i j, i < n → j < n → mf T i j = mf T j i) {j : Nat} (hj : j < n) : sN n (fun i => mf T i j) = sN n (mf T j) := sN_congr fun i hi => sy i j hi hj
theorem WkS.sy_sol (h : WkS b n T) (sy : ∀ i j, i < n → j < n → mf T i j = mf T j i) {i j : Nat} (hi : i < n) (hj : j < n) : sol n (mf T) i = sol n (mf T) j := by
  have one : ∀ j, j < n → sZ n (fun i => (1 : Int) * lap n (mf T) i j) = 0 := fun j hj => by
    have e : (fun i => (1 : Int) * lap n (mf T) i j) = fun i => (if j = i then ((sN n (mf T j) : Nat) : Int) else 0) + (-1) * ((mf T i j : Nat) : Int) := by
      funext i
      unfold lap
      by_cases c : i = j
      · rw [if_pos c, if_pos c.symm, c]
        omega
      · rw [if_neg c, if_neg fun z => c z.symm]
        omega
    rw [e, sZ_lin, sZ_one (a := j) hj fun i _ ne => if_neg (Ne.symm ne), if_pos rfl, sZ_nat, h.sy_col sy hj]
    omega
  have := rest_one h.st (x := fun i => (sol n (mf T) i : Int)) (y := fun _ => 1) (fun _ _ => by omega) (fun j hj => sol_rest hj) one hi hj
  omega
theorem WkS.sy_w (h : WkS b n T) (sy : ∀ i j, i < n → j < n → mf T i j = mf T j i) {i j : Nat} (hi : i < n) (hj : j < n) : wN n (mf T) i = wN n (mf T) j := by
  have e := h.w_sol hi hj
  rw [h.sy_sol sy hi hj] at e
  exact Nat.eq_of_mul_eq_mul_right (sol_pos h.st j hj) e
/-- its flows are alike both ways -/
theorem WkS.sy_fl (h : WkS b n T) (sy : ∀ i j, i < n → j < n → mf T i j = mf T j i) {i j : Nat} (hi : i < n) (hj : j < n) : flN n T i j = flN n T j i := by
  unfold flN
  rw [h.sy_sol sy hi hj, sy i j hi hj]
/-- it is its own walk backwards -/
theorem WkS.sy_bw (h : WkS b n T) (sy : ∀ i j, i < n → j < n → mf T i j = mf T j i) {i j : Nat} (hi : i < n) (hj : j < n) : chQ n (mf (bwM n T)) i j = chQ n (mf T) i j := by
  rw [h.bw_ch hi hj]
  unfold chQ pW
  rw [h.sy_w sy hj hi, sy j i hj hi, fQ_mul, fQ_mul]
  have z1 := fQ_ne (h.w_eq hi).2
  have z2 := fQ_ne (h.p i hi)
  generalize fQ (wN n (mf T) i) = a at *
  generalize fQ (mf T i j) = c at *
  generalize fQ (sN n (mf T i)) = d at *
  grind
theorem WkS.sy_sh (h : WkS b n T) (sy : ∀ i j, i < n → j < n → mf T i j = mf T j i) {i : Nat} (hi : i < n) : shQ n T i = fQ (sN n (mf T i)) / fQ (sN n fun j => sN n (mf T j)) := by
  have e1 : ∀ j, j < n → pN n (mf T) j = sol n (mf T) 0 * sN n (mf T j) := fun j hj => by
    unfold pN
    rw [h.sy_sol sy hj (show 0 < n by omega)]
  have e2 : allN n T = sol n (mf T) 0 * sN n fun j => sN n (mf T j) := by
    unfold allN
    rw [← sN_mulL]
    exact sN_congr e1
  unfold shQ
  have a0 : 0 < sN n fun j => sN n (mf T j) := sN_pos (i := i) hi (h.p i hi)
  refine ratio_eq h.all_pos a0 ?_
  rw [e1 i hi, e2]
  generalize sol n (mf T) 0 = a
  generalize sN n (mf T i) = c
  generalize (sN n fun j => sN n (mf T j)) = d
  grind
end
/-! ### the walk by toss -/
theorem sN_part {f : Nat → Nat} {k n : Nat} (h : k ≤ n) : sN k f ≤ sN n f := by
  by_cases c : k = n
  · rw [c]
    exact Nat.le_refl _
  · have := sN_two (f := f) (t := k) (j := k) (n := n) (Nat.le_refl _) (by omega)
    omega
theorem take_mr {α : Type} (f : Nat → α) (l i : Nat) : ((List.range l).map f).take i = (List.range (min i l)).map f := by
  rw [← List.map_take, List.take_range]
theorem WkS.fl_part {b : Nat → Nat} {n : Nat} {M : List (List Nat)} (h : WkS b n M) {i k : Nat} (hi : i < n) (hk : k ≤ n) : Bq.Sz (4 + bS n b) (Bq.sumQ ((List.range k).map fun j => fQ (flN n M j i) / fQ (allN n M))) := by
  have e : ((List.range k).map fun j => fQ (flN n M j i) / fQ (allN n M)) = (List.range k).map fun j => fQ (wN n (mf M) j * mf M j i) / fQ (allW n M) := List.map_congr_left fun j hj => h.fl_eq2 (by have := List.mem_range.mp hj; omega) i
  rw [e, sumQ_div (fun j => wN n (mf M) j * mf M j i) (fQ (allW n M)) k]
  have le := sN_part (f := fun j => wN n (mf M) j * mf M j i) hk
  have e2 := h.w_bal hi
  have lt := h.pW_lt hi
  have p : 2 ^ (1 + bS n b) ≤ 2 ^ (4 + bS n b) := pow_le (by omega)
  exact fQ_sz (by omega) h.allW_lt h.allW_pos
section
variable {b : Nat → Nat} {n : Nat} {M : List (List Nat)}
def tsM (n : Nat) (M : List (List Nat)) : List (List Nat) := (List.range n).map fun i => (List.range n).map fun j => wN n (mf M) i * mf M i j + wN n (mf M) j * mf M j i
theorem tsM_at {i j : Nat} (hi : i < n) (hj : j < n) : mf (tsM n M) i j = wN n (mf M) i * mf M i j + wN n (mf M) j * mf M j i := by
  have e : (tsM n M)[i]? = some ((List.range n).map fun j => wN n (mf M) i * mf M i j + wN n (mf M) j * mf M j i) := by
    unfold tsM
    rw [List.getElem?_map, List.getElem?_range hi]
    rfl
  rw [mf_row e]
  show ((List.range n).map fun j => wN n (mf M) i * mf M i j + wN n (mf M) j * mf M j i).getD j 0 = _
  rw [List.getD_eq_getElem?_getD, List.getElem?_map, List.getElem?_range hj]
  rfl
theorem tsM_sy {i j : Nat} (hi : i < n) (hj : j < n) : mf (tsM n M) i j = mf (tsM n M) j i := by
  rw [tsM_at hi hj, tsM_at hj hi, Nat.add_comm]
theorem WkS.ts_sum (h : WkS b n M) {i : Nat} (hi : i < n) : sN n (mf (tsM n M) i) = 2 * pW n M i := by
  have e : sN n (mf (tsM n M) i) = sN n fun j => wN n (mf M) i * mf M i j + wN n (mf M) j * mf M j i := sN_congr fun j hj => tsM_at hi hj
  rw [e, sN_add, h.w_bal hi, sN_mulL]
  show wN n (mf M) i * sN n (mf M i) + _ = _
  unfold pW
  omega
theorem WkS.ts_str (h : WkS b n M) : StrN n (mf (tsM n M)) := by
  intro a c ha hc
  refine Reach.mono (fun x y e => ?_) (h.st a c ha hc)
  obtain ⟨e1, e2, e3⟩ := e
  refine ⟨e1, e2, ?_⟩
  rw [tsM_at e1 e2]
  have := Nat.mul_pos (h.w_eq e1).2 e3
  omega
theorem WkS.ts (h : WkS b n M) (hC : n * (bS n b + 2) ≤ 2200) : WkB (bS n b - 1) n (tsM n M) := by
  have b3 := h.b_le (i := 0) (by have := h.n1; omega)
  refine ⟨h.n1, h.n6, ?_, by unfold tsM; simp, fun row hr => ?_, fun i j hi hj => ?_, h.ts_str, fun i hi => by rw [h.ts_sum hi]; have := h.pW_pos hi; omega⟩
  · rw [sN_cst]
    have : bS n b - 1 + 3 = bS n b + 2 := by omega
    rw [this]
    exact hC
  · unfold tsM at hr
    obtain ⟨i, _, rfl⟩ := List.mem_map.mp hr
    simp
  · rw [tsM_at hi hj]
    have h1 := h.wM_lt hi hj
    have h2 := h.wM_lt hj hi
    show _ < 2 ^ (bS n b - 1)
    have e : bS n b - 1 = (bS n b - 2) + 1 := by omega
    rw [e, Nat.pow_succ]
    omega
/-- half the sum of the walk and the walk backwards -/
theorem WkS.ts_ch (h : WkS b n M) {i j : Nat} (hi : i < n) (hj : j < n) : chQ n (mf (tsM n M)) i j = (chQ n (mf M) i j + chQ n (mf (bwM n M)) i j) / 2 := by
  rw [h.bw_ch hi hj]
  unfold chQ
  rw [h.ts_sum hi, tsM_at hi hj]
  unfold pW
  rw [fQ_add, fQ_mul 2, fQ_mul (wN n (mf M) i), fQ_mul (wN n (mf M) i)]
  have z1 := fQ_ne (h.w_eq hi).2
  have z2 := fQ_ne (h.p i hi)
  have z3 : fQ 2 = 2 := rfl
  rw [z3]
  generalize fQ (wN n (mf M) i) = a at *
  generalize fQ (mf M i j) = c at *
  generalize fQ (sN n (mf M i)) = d at *
  generalize fQ (wN n (mf M) j * mf M j i) = f at *
  grind
/-- it has the same shares -/
theorem WkS.ts_sh (h : WkS b n M) {c : Nat → Nat} (ht : WkS c n (tsM n M)) {i : Nat} (hi : i < n) : shQ n (tsM n M) i = shQ n M i := by
  rw [ht.sy_sh (fun i j hi hj => tsM_sy hi hj) hi, h.sh_eq hi, h.ts_sum hi]
  have e : (sN n fun j => sN n (mf (tsM n M) j)) = 2 * allW n M := by
    unfold allW
    rw [← sN_mulL]
    exact sN_congr fun j hj => h.ts_sum hj
  rw [e, fQ_mul, fQ_mul]
  have z1 := fQ_ne h.allW_pos
  have z3 : fQ 2 = 2 := rfl
  rw [z3]
  generalize fQ (allW n M) = a at *
  generalize fQ (pW n M i) = c at *
  grind
/-- its chances are no longer than the flows of the walk -/
theorem WkS.ts_chz (h : WkS b n M) {i j : Nat} (hi : i < n) (hj : j < n) : Bq.Sz (2 + bS n b) (chQ n (mf (tsM n M)) i j) := by
  have b3 := h.b_le hi
  unfold chQ
  rw [h.ts_sum hi, tsM_at hi hj]
  have h1 := h.wM_lt hi hj
  have h2 := h.wM_lt hj hi
  have h3 := h.pW_lt hi
  have p1 : 2 ^ (bS n b - 2) * 2 ^ 4 = 2 ^ (2 + bS n b) := by
    rw [← Nat.pow_add]
    congr 1
    omega
  have p2 : 2 ^ (2 + bS n b) = 2 * 2 ^ (1 + bS n b) := by
    have : 2 + bS n b = (1 + bS n b) + 1 := by omega
    rw [this, Nat.pow_succ, Nat.mul_comm]
  exact fQ_sz (by omega) (by omega) (by have := h.pW_pos hi; omega)
end
end Bw
/-! Places left out but some, in their order: sums of differences of heights stay. Plain mathematics. -/
namespace Bw
/-- the sum over those of the first n that a test lets -/
def sS (n : Nat) (p : Nat → Bool) (h : Nat → Rat) : Rat := Bq.sumQ (((List.range n).filter p).map h)
theorem sS_succ (n : Nat) (p : Nat → Bool) (h : Nat → Rat) : sS (n + 1) p h = sS n p h + if p n = true then h n else 0 := by
  unfold sS
  rw [List.range_succ, List.filter_append, List.map_append, sumQ_app]
  congr 1
  by_cases c : p n = true
  · rw [if_pos c, List.filter_cons_of_pos c]
    show h n + 0 = h n
    grind
  · rw [if_neg c, List.filter_cons_of_neg c]
    rfl
theorem sS_zero (p : Nat → Bool) (h : Nat → Rat) : sS 0 p h = 0 := rfl
theorem sS_congr {p q : Nat → Bool} {h k : Nat → Rat} : ∀ {n : Nat}, (∀ j, j < n → p j = q j) → (∀ j, j < n → p j = true → h j = k j) → sS n p h = sS n q k
  | 0, _, _ => rfl
  | n + 1, e, f => by
    rw [sS_succ, sS_succ, sS_congr (n := n) (fun j hj => e j (by omega)) (fun j hj => f j (by omega)), ← e n (by omega)]
    congr 1
    by_cases c : p n = true
    · rw [if_pos c, if_pos c, f n (by omega) c]
    · rw [if_neg c, if_neg c]
theorem sS_lin (p : Nat → Bool) (c d : Rat) (h k : Nat → Rat) : ∀ n, sS n p (fun j => c * h j + d * k j) = c * sS n p h + d * sS n p k
  | 0 => by
    rw [sS_zero, sS_zero, sS_zero]
    grind
  | n + 1 => by
    rw [sS_succ, sS_succ, sS_succ, sS_lin p c d h k n]
    split <;> grind
theorem sS_split {p q : Nat → Bool} {g : Nat} (hq : q g = false) (hp : ∀ j, p j = (q j || decide (j = g))) (h : Nat → Rat) : ∀ n, sS n p h = sS n q h + if g < n then h g else 0
  | 0 => by
    rw [sS_zero, sS_zero, if_neg (Nat.not_lt_zero g)]
    grind
  | n + 1 => by
    rw [sS_succ, sS_succ, sS_split hq hp h n]
    by_cases c : n = g
    · subst c
      have e : p n = true := by
        rw [hp n]
        simp
      rw [e, hq, if_neg (Nat.lt_irrefl n), if_pos (rfl : true = true), if_neg Bool.false_ne_true, if_pos (Nat.lt_succ_self n)]
    · have e : p n = q n := by
        rw [hp n, decide_eq_false c, Bool.or_false]
      rw [e]
      by_cases d : g < n
      · rw [if_pos d, if_pos (show g < n + 1 by omega)]
        grind
      · rw [if_neg d, if_neg (show ¬ g < n + 1 by omega)]
        grind
theorem sS_nonneg {p : Nat → Bool} {h : Nat → Rat} : ∀ {n : Nat}, (∀ j, j < n → p j = true → 0 ≤ h j) → 0 ≤ sS n p h
  | 0, _ => by
    rw [sS_zero]
    exact Rat.le_refl
  | n + 1, f => by
    have h1 := sS_nonneg (n := n) fun j hj => f j (by omega)
    rw [sS_succ]
    split
    · have := f n (by omega) (by assumption)
      grind
    · grind
theorem sS_pos {p : Nat → Bool} {h : Nat → Rat} {a : Nat} : ∀ {n : Nat}, (∀ j, j < n → p j = true → 0 ≤ h j) → a < n → p a = true → 0 < h a → 0 < sS n p h
  | 0, _, ha, _, _ => absurd ha (Nat.not_lt_zero _)
  | n + 1, f, ha, pa, ga => by
    rw [sS_succ]
    by_cases c : a = n
    · subst c
      have h1 := sS_nonneg (n := a) fun j hj => f j (by omega)
      rw [if_pos pa]
      grind
    · have h1 := sS_pos (n := n) (fun j hj => f j (by omega)) (by omega) pa ga
      split
      · have := f n (by omega) (by assumption)
        grind
      · grind
/-- one place left out -/
def elQ (w : Rat) (g : Nat) (L : Nat → Nat → Rat) : Nat → Nat → Rat := fun i j => L i j + L i g * L g j / w
def remB (keep : Nat → Bool) (g x : Nat) : Bool := keep x || decide (g ≤ x)
def loQ (n : Nat) (keep : Nat → Bool) (F : Nat → Nat → Rat) : Nat → Nat → Nat → Rat
  | 0 => F
  | g + 1 => if keep g = true then loQ n keep F g else elQ (sS n (remB keep (g + 1)) (loQ n keep F g g)) g (loQ n keep F g)
theorem rem_keep {keep : Nat → Bool} {g : Nat} (h : keep g = true) (j : Nat) : remB keep (g + 1) j = remB keep g j := by
  unfold remB
  by_cases c : j = g
  · rw [c, h]
    rfl
  · congr 1
    exact decide_eq_decide.mpr (by omega)
theorem rem_out {keep : Nat → Bool} {g : Nat} (h : ¬ keep g = true) : remB keep (g + 1) g = false := by
  unfold remB
  simp at h
  rw [h, decide_eq_false (by omega)]
  rfl
theorem rem_split {keep : Nat → Bool} {g : Nat} (h : ¬ keep g = true) (j : Nat) : remB keep g j = (remB keep (g + 1) j || decide (j = g)) := by
  unfold remB
  rw [Bool.or_assoc, ← Bool.decide_or]
  congr 1
  exact decide_eq_decide.mpr (by omega)
theorem rem_self (keep : Nat → Bool) (g : Nat) : remB keep g g = true := by
  unfold remB
  rw [decide_eq_true (Nat.le_refl g), Bool.or_true]
theorem rem_up {keep : Nat → Bool} {g x : Nat} (h : remB keep (g + 1) x = true) : remB keep g x = true := by
  unfold remB at *
  simp at *
  rcases h with h | h
  · exact .inl h
  · exact .inr (by omega)
/-- what is left leads everywhere -/
def EdS (n : Nat) (p : Nat → Bool) (L : Nat → Nat → Rat) : Nat → Nat → Prop := fun x y => (x < n ∧ p x = true) ∧ (y < n ∧ p y = true) ∧ 0 < L x y
structure LoI (n : Nat) (p : Nat → Bool) (L : Nat → Nat → Rat) : Prop where
  nn : ∀ i j, i < n → j < n → p i = true → p j = true → 0 ≤ L i j
  con : ∀ a b, a < n → b < n → p a = true → p b = true → Reach (EdS n p L) a b
theorem LoI.whole {n g k : Nat} {p q : Nat → Bool} {L : Nat → Nat → Rat} (h : LoI n p L) (hg : g < n) (pg : p g = true) (hk : k < n) (pk : p k = true) (ne : g ≠ k) (hq : ∀ j, p j = (q j || decide (j = g))) (up : ∀ j, q j = true → p j = true) : 0 < sS n q (L g) := by
  obtain ⟨c, nc, e⟩ := reach_first (h.con g k hg hk pg pk) ne
  have pc := e.2.1.2
  rw [hq c, decide_eq_false nc, Bool.or_false] at pc
  exact sS_pos (a := c) (fun j hj qj => h.nn g j hg hj pg (up j qj)) e.2.1.1 pc e.2.2
theorem mul_nn {a b : Rat} (ha : 0 ≤ a) (hb : 0 ≤ b) : 0 ≤ a * b := Rat.mul_nonneg ha hb
theorem LoI.step {n g k : Nat} {p q : Nat → Bool} {L : Nat → Nat → Rat} (h : LoI n p L) (hg : g < n) (pg : p g = true) (qg : q g = false) (hk : k < n) (pk : p k = true) (ne : g ≠ k) (hq : ∀ j, p j = (q j || decide (j = g))) (up : ∀ j, q j = true → p j = true) : LoI n q (elQ (sS n q (L g)) g L) := by
  have w := h.whole hg pg hk pk ne hq up
  generalize sS n q (L g) = w0 at w
  have tail : ∀ i j, i < n → j < n → p i = true → p j = true → 0 ≤ L i g * L g j / w0 := fun i j hi hj pi pj => div_nonneg (mul_nn (h.nn i g hi hg pi pg) (h.nn g j hg hj pg pj)) w
  refine ⟨fun i j hi hj qi qj => ?_, fun a b ha hb qa qb => ?_⟩
  · have h1 := h.nn i j hi hj (up i qi) (up j qj)
    have h2 := tail i j hi hj (up i qi) (up j qj)
    unfold elQ
    grind
  · have na : a ≠ g := fun z => by
      rw [z, qg] at qa
      cases qa
    have nb : b ≠ g := fun z => by
      rw [z, qg] at qb
      cases qb
    have main : ∀ c, Reach (EdS n p L) a c → (c ≠ g → Reach (EdS n q (elQ w0 g L)) a c ∧ c < n ∧ q c = true) ∧ (c = g → ∃ d, Reach (EdS n q (elQ w0 g L)) a d ∧ d < n ∧ q d = true ∧ 0 < L d g) := fun c r => by
      induction r with
      | refl => exact ⟨fun _ => ⟨.refl, ha, qa⟩, fun z => absurd z na⟩
      | step r e ih =>
        rename_i x y
        obtain ⟨⟨x1, x2⟩, ⟨y1, y2⟩, e3⟩ := e
        by_cases cx : x = g
        · subst cx
          obtain ⟨d, rd, d1, d2, d3⟩ := ih.2 rfl
          refine ⟨fun ny => ?_, fun _ => ⟨d, rd, d1, d2, d3⟩⟩
          have qy : q y = true := by
            have z := hq y
            rw [y2, decide_eq_false ny, Bool.or_false] at z
            exact z.symm
          refine ⟨.step rd ⟨⟨d1, d2⟩, ⟨y1, qy⟩, ?_⟩, y1, qy⟩
          have h1 := h.nn d y d1 y1 (up d d2) y2
          have h2 := div_pos (Rat.mul_pos d3 e3) w
          unfold elQ
          grind
        · obtain ⟨rx, _, qx⟩ := ih.1 cx
          refine ⟨fun ny => ?_, fun z => ?_⟩
          · have qy : q y = true := by
              have z := hq y
              rw [y2, decide_eq_false ny, Bool.or_false] at z
              exact z.symm
            refine ⟨.step rx ⟨⟨x1, qx⟩, ⟨y1, qy⟩, ?_⟩, y1, qy⟩
            have h2 := tail x y x1 y1 x2 y2
            unfold elQ
            grind
          · subst z
            exact ⟨x, rx, x1, qx, e3⟩
    exact ((main b (h.con a b ha hb (up a qa) (up b qb))).1 nb).1
theorem el_harm {n g i : Nat} {p q : Nat → Bool} {L : Nat → Nat → Rat} {f : Nat → Rat} (hg : g < n) (qg : q g = false) (hq : ∀ j, p j = (q j || decide (j = g))) (w : sS n q (L g) ≠ 0) (hz : sS n p (fun j => L g j * (f g - f j)) = 0) :
    sS n q (fun j => elQ (sS n q (L g)) g L i j * (f i - f j)) = sS n p (fun j => L i j * (f i - f j)) := by
  rw [sS_split qg hq _ n, if_pos hg] at hz ⊢
  have e1 : sS n q (fun j => elQ (sS n q (L g)) g L i j * (f i - f j)) = sS n q (fun j => 1 * (L i j * (f i - f j)) + (L i g / sS n q (L g)) * (L g j * (f i - f j))) := sS_congr (fun _ _ => rfl) fun j _ _ => by
    unfold elQ
    generalize sS n q (L g) = w0
    grind
  have e2 : sS n q (fun j => L g j * (f i - f j)) = sS n q (fun j => 1 * (L g j * (f g - f j)) + (f i - f g) * L g j) := sS_congr (fun _ _ => rfl) fun j _ _ => by grind
  rw [sS_lin] at e1 e2
  have e3 : (sS n q fun j => L g j) = sS n q (L g) := rfl
  rw [e3] at e2
  rw [e1, e2]
  generalize sS n q (L g) = w0 at *
  generalize (sS n q fun j => L g j * (f g - f j)) = z at *
  generalize (sS n q fun j => L i j * (f i - f j)) = y
  grind
section
variable {n : Nat} {keep : Nat → Bool} {F : Nat → Nat → Rat}
theorem lo_succ_keep {g : Nat} (h : keep g = true) : loQ n keep F (g + 1) = loQ n keep F g := by
  rw [loQ, if_pos h]
theorem lo_succ_out {g : Nat} (h : ¬ keep g = true) : loQ n keep F (g + 1) = elQ (sS n (remB keep (g + 1)) (loQ n keep F g g)) g (loQ n keep F g) := by
  rw [loQ, if_neg h]
theorem LoI.congr {p q : Nat → Bool} {L : Nat → Nat → Rat} (e : ∀ j, p j = q j) (h : LoI n p L) : LoI n q L := by
  have : p = q := funext e
  rw [← this]
  exact h
theorem lo_inv (h0 : LoI n (fun _ => true) F) {k : Nat} (hk : k < n) (kk : keep k = true) : ∀ g, g ≤ n → LoI n (remB keep g) (loQ n keep F g)
  | 0, _ => h0.congr fun j => by
    unfold remB
    simp
  | g + 1, hg => by
    have ih := lo_inv h0 hk kk g (by omega)
    by_cases c : keep g = true
    · rw [lo_succ_keep c]
      exact ih.congr fun j => (rem_keep c j).symm
    · rw [lo_succ_out c]
      refine ih.step (k := k) (by omega) (rem_self keep g) (rem_out c) hk ?_ (fun z => c (by rw [z]; exact kk)) (rem_split c) fun j hj => rem_up hj
      unfold remB
      rw [kk]
      rfl
theorem lo_whole (h0 : LoI n (fun _ => true) F) {k : Nat} (hk : k < n) (kk : keep k = true) {g : Nat} (hg : g < n) (c : ¬ keep g = true) : 0 < sS n (remB keep (g + 1)) (loQ n keep F g g) := by
  have ih := lo_inv h0 hk kk g (by omega)
  refine ih.whole (k := k) hg (rem_self keep g) hk ?_ (fun z => c (by rw [z]; exact kk)) (rem_split c) fun j hj => rem_up hj
  unfold remB
  rw [kk]
  rfl
theorem lo_harm (h0 : LoI n (fun _ => true) F) {k : Nat} (hk : k < n) (kk : keep k = true) {f : Nat → Rat} (hf : ∀ i, i < n → ¬ keep i = true → sS n (fun _ => true) (fun j => F i j * (f i - f j)) = 0) :
    ∀ g, g ≤ n → ∀ i, i < n → remB keep g i = true → sS n (remB keep g) (fun j => loQ n keep F g i j * (f i - f j)) = sS n (fun _ => true) (fun j => F i j * (f i - f j))
  | 0, _, i, _, _ => sS_congr (fun j _ => by unfold remB; simp) fun _ _ _ => rfl
  | g + 1, hg, i, hi, hr => by
    have ih := lo_harm h0 hk kk hf g (by omega)
    by_cases c : keep g = true
    · rw [lo_succ_keep c, ← ih i hi (by rw [← rem_keep c]; exact hr)]
      exact sS_congr (fun j _ => rem_keep c j) fun _ _ _ => rfl
    · rw [lo_succ_out c, ← ih i hi (rem_up hr)]
      have w := lo_whole h0 hk kk (show g < n by omega) c
      refine el_harm (by omega) (rem_out c) (rem_split c) (by grind) ?_
      rw [ih g (by omega) (rem_self keep g)]
      exact hf g (by omega) c
theorem lo_sym (hs : ∀ i j, F i j = F j i) : ∀ g i j, loQ n keep F g i j = loQ n keep F g j i
  | 0, i, j => hs i j
  | g + 1, i, j => by
    have ih := lo_sym hs g
    by_cases c : keep g = true
    · rw [lo_succ_keep c]
      exact ih i j
    · rw [lo_succ_out c]
      unfold elQ
      rw [ih i j, ih i g, ih g j, Rat.mul_comm]
end
/-! ### the end: two, three places left -/
theorem sS_none (n : Nat) (h : Nat → Rat) : sS n (fun _ => false) h = 0 := by
  induction n with
  | zero => rfl
  | succ n ih =>
    rw [sS_succ, ih, if_neg (by simp)]
    grind
theorem sS_two {n a b : Nat} (ha : a < n) (hb : b < n) (ne : a ≠ b) (h : Nat → Rat) : sS n (fun x => decide (x = a) || decide (x = b)) h = h a + h b := by
  rw [sS_split (g := b) (q := fun x => decide (x = a)) (decide_eq_false (fun z => ne z.symm)) (fun j => rfl) h n, if_pos hb,
    sS_split (g := a) (q := fun _ => false) rfl (fun j => by rw [Bool.false_or]) h n, if_pos ha, sS_none]
  grind
theorem sS_three {n a b c : Nat} (ha : a < n) (hb : b < n) (hc : c < n) (n1 : a ≠ b) (n2 : a ≠ c) (n3 : b ≠ c) (h : Nat → Rat) : sS n (fun x => decide (x = a) || decide (x = b) || decide (x = c)) h = h a + h b + h c := by
  rw [sS_split (g := c) (q := fun x => decide (x = a) || decide (x = b)) (by rw [decide_eq_false (fun z => n2 z.symm), decide_eq_false (fun z => n3 z.symm)]; rfl) (fun j => rfl) h n, if_pos hc, sS_two ha hb n1]
theorem rem_end {n : Nat} {keep : Nat → Bool} {x : Nat} (h : x < n) : remB keep n x = keep x := by
  unfold remB
  rw [decide_eq_false (by omega), Bool.or_false]
/-- between two places that are left: the weight times the difference -/
theorem two_left {n : Nat} {F : Nat → Nat → Rat} (h0 : LoI n (fun _ => true) F) {a b : Nat} (ha : a < n) (hb : b < n) (ne : a ≠ b) {keep : Nat → Bool} (hk : ∀ x, keep x = (decide (x = a) || decide (x = b))) {f : Nat → Rat} (hf : ∀ i, i < n → i ≠ a → i ≠ b → sS n (fun _ => true) (fun j => F i j * (f i - f j)) = 0) :
    loQ n keep F n a b * (f a - f b) = sS n (fun _ => true) (fun j => F a j * (f a - f j)) ∧ loQ n keep F n b a * (f b - f a) = sS n (fun _ => true) (fun j => F b j * (f b - f j)) ∧ 0 < loQ n keep F n a b := by
  have ka : keep a = true := by rw [hk]; simp
  have kb : keep b = true := by rw [hk]; simp
  have hf' : ∀ i, i < n → ¬ keep i = true → sS n (fun _ => true) (fun j => F i j * (f i - f j)) = 0 := fun i hi c => hf i hi (fun z => c (by rw [z]; exact ka)) (fun z => c (by rw [z]; exact kb))
  have H := lo_harm h0 ha ka hf' n (Nat.le_refl _)
  have e : ∀ h : Nat → Rat, sS n (remB keep n) h = h a + h b := fun h => by
    rw [sS_congr (q := fun x => decide (x = a) || decide (x = b)) (fun j hj => by rw [rem_end hj, hk]) fun _ _ _ => rfl, sS_two ha hb ne]
  have h1 := H a ha (by rw [rem_end ha]; exact ka)
  have h2 := H b hb (by rw [rem_end hb]; exact kb)
  rw [e] at h1 h2
  refine ⟨by rw [← h1]; grind, by rw [← h2]; grind, ?_⟩
  have I := lo_inv (keep := keep) h0 ha ka n (Nat.le_refl _)
  obtain ⟨c, nc, ec⟩ := reach_first (I.con a b ha hb (by rw [rem_end ha]; exact ka) (by rw [rem_end hb]; exact kb)) ne
  obtain ⟨_, ⟨c1, c2⟩, c3⟩ := ec
  rw [rem_end c1, hk, decide_eq_false nc, Bool.false_or, decide_eq_true_eq] at c2
  rw [← c2]
  exact c3
/-- three places left, what goes out at the first one being 0 -/
theorem three_left {n : Nat} {F : Nat → Nat → Rat} (h0 : LoI n (fun _ => true) F) {a b c : Nat} (ha : a < n) (hb : b < n) (hc : c < n) (n1 : a ≠ b) (n2 : a ≠ c) (n3 : b ≠ c) {keep : Nat → Bool} (hk : ∀ x, keep x = (decide (x = a) || decide (x = b) || decide (x = c))) :
    0 < loQ n keep F n a b + loQ n keep F n a c ∧ ∀ {f : Nat → Rat}, (∀ i, i < n → i ≠ b → i ≠ c → sS n (fun _ => true) (fun j => F i j * (f i - f j)) = 0) → loQ n keep F n a b * (f a - f b) + loQ n keep F n a c * (f a - f c) = 0 := by
  have ka : keep a = true := by rw [hk]; simp
  have kb : keep b = true := by rw [hk]; simp
  have kc : keep c = true := by rw [hk]; simp
  have I := lo_inv (keep := keep) h0 ha ka n (Nat.le_refl _)
  constructor
  · obtain ⟨d, nd, ed⟩ := reach_first (I.con a b ha hb (by rw [rem_end ha]; exact ka) (by rw [rem_end hb]; exact kb)) n1
    obtain ⟨_, ⟨d1, d2⟩, d3⟩ := ed
    have z1 := I.nn a b ha hb (by rw [rem_end ha]; exact ka) (by rw [rem_end hb]; exact kb)
    have z2 := I.nn a c ha hc (by rw [rem_end ha]; exact ka) (by rw [rem_end hc]; exact kc)
    rw [rem_end d1, hk, decide_eq_false nd, Bool.false_or, Bool.or_eq_true, decide_eq_true_eq, decide_eq_true_eq] at d2
    rcases d2 with d2 | d2
    · rw [d2] at d3
      grind
    · rw [d2] at d3
      grind
  · intro f hf
    have hf' : ∀ i, i < n → ¬ keep i = true → sS n (fun _ => true) (fun j => F i j * (f i - f j)) = 0 := fun i hi z => hf i hi (fun y => z (by rw [y]; exact kb)) (fun y => z (by rw [y]; exact kc))
    have h1 := lo_harm h0 ha ka hf' n (Nat.le_refl _) a ha (by rw [rem_end ha]; exact ka)
    rw [sS_congr (q := fun x => decide (x = a) || decide (x = b) || decide (x = c)) (fun j hj => by rw [rem_end hj, hk]) fun _ _ _ => rfl, sS_three ha hb hc n1 n2 n3, hf a ha n1 n2] at h1
    grind
/-! ### sizes -/
theorem lo_len {p q : Nat → Bool} {g : Nat} (hq : q g = false) (hp : ∀ j, p j = (q j || decide (j = g))) : ∀ n, ((List.range n).filter p).length = ((List.range n).filter q).length + if g < n then 1 else 0
  | 0 => by simp
  | n + 1 => by
    rw [List.range_succ, List.filter_append, List.filter_append, List.length_append, List.length_append, lo_len hq hp n]
    by_cases c : n = g
    · subst c
      rw [if_neg (by omega), if_pos (by omega), List.filter_cons_of_pos (by rw [hp, hq]; simp), List.filter_cons_of_neg (by rw [hq]; simp)]
      simp
    · have e : p n = q n := by
        rw [hp n, decide_eq_false c, Bool.or_false]
      have e2 : ([n].filter p).length = ([n].filter q).length := by
        by_cases d : q n = true
        · rw [List.filter_cons_of_pos d, List.filter_cons_of_pos (by rw [e]; exact d)]
          rfl
        · rw [List.filter_cons_of_neg d, List.filter_cons_of_neg (by rw [e]; exact d)]
          simp only [List.filter_nil]
      rw [e2]
      by_cases d : g < n
      · rw [if_pos d, if_pos (by omega)]
        omega
      · rw [if_neg d, if_neg (by omega)]
        omega
/-- how long numbers are where so many places are left, of five -/
def bL (s : Nat) : Nat → Nat
  | 0 => 5 * (6 * (7 * s + 6) + 5) + 4
  | 1 => 5 * (6 * (7 * s + 6) + 5) + 4
  | 2 => 5 * (6 * (7 * s + 6) + 5) + 4
  | 3 => 6 * (7 * s + 6) + 5
  | 4 => 7 * s + 6
  | _ => s
theorem bL_step {s m : Nat} (h2 : 2 ≤ m) (h4 : m ≤ 4) : (m + 3) * bL s (m + 1) + (m + 2) = bL s m := by
  match m, h2, h4 with
  | 2, _, _ => rfl
  | 3, _, _ => rfl
  | 4, _, _ => rfl
theorem bL_mono {s m : Nat} (h : m ≤ 5) : s ≤ bL s m := by
  match m, h with
  | 0, _ => show s ≤ 5 * (6 * (7 * s + 6) + 5) + 4; omega
  | 1, _ => show s ≤ 5 * (6 * (7 * s + 6) + 5) + 4; omega
  | 2, _ => show s ≤ 5 * (6 * (7 * s + 6) + 5) + 4; omega
  | 3, _ => show s ≤ 6 * (7 * s + 6) + 5; omega
  | 4, _ => show s ≤ 7 * s + 6; omega
  | 5, _ => exact Nat.le_refl _
theorem sS_sz {s : Nat} {p : Nat → Bool} {h : Nat → Rat} : ∀ {n : Nat}, (∀ j, j < n → p j = true → Bq.Sz s (h j)) → Bq.Sz (1 + ((List.range n).filter p).length * (s + 1)) (sS n p h)
  | 0, _ => Bq.Sz.zero.mono (by omega)
  | n + 1, f => by
    have ih := sS_sz (n := n) fun j hj => f j (by omega)
    rw [sS_succ, List.range_succ, List.filter_append, List.length_append]
    by_cases c : p n = true
    · rw [if_pos c, List.filter_cons_of_pos c]
      have := ih.add (f n (by omega) c)
      refine this.mono ?_
      rw [Nat.add_mul]
      simp
      omega
    · rw [if_neg c, List.filter_cons_of_neg c, Rat.add_zero]
      exact ih.mono (by simp)
theorem bL_anti {s a b : Nat} (h : a ≤ b) (h5 : b ≤ 5) : bL s b ≤ bL s a := by
  match b, a, h, h5 with
  | 0, 0, _, _ => exact Nat.le_refl _
  | 1, 0, _, _ => exact Nat.le_refl _
  | 1, 1, _, _ => exact Nat.le_refl _
  | 2, 0, _, _ => exact Nat.le_refl _
  | 2, 1, _, _ => exact Nat.le_refl _
  | 2, 2, _, _ => exact Nat.le_refl _
  | 3, 0, _, _ => show 6 * (7 * s + 6) + 5 ≤ 5 * (6 * (7 * s + 6) + 5) + 4; omega
  | 3, 1, _, _ => show 6 * (7 * s + 6) + 5 ≤ 5 * (6 * (7 * s + 6) + 5) + 4; omega
  | 3, 2, _, _ => show 6 * (7 * s + 6) + 5 ≤ 5 * (6 * (7 * s + 6) + 5) + 4; omega
  | 3, 3, _, _ => exact Nat.le_refl _
  | 4, 0, _, _ => show 7 * s + 6 ≤ 5 * (6 * (7 * s + 6) + 5) + 4; omega
  | 4, 1, _, _ => show 7 * s + 6 ≤ 5 * (6 * (7 * s + 6) + 5) + 4; omega
  | 4, 2, _, _ => show 7 * s + 6 ≤ 5 * (6 * (7 * s + 6) + 5) + 4; omega
  | 4, 3, _, _ => show 7 * s + 6 ≤ 6 * (7 * s + 6) + 5; omega
  | 4, 4, _, _ => exact Nat.le_refl _
  | 5, a, _, _ => exact bL_mono (by omega)
def lnR (n : Nat) (p : Nat → Bool) : Nat := ((List.range n).filter p).length
theorem lnR_congr {n : Nat} {p q : Nat → Bool} (e : ∀ j, j < n → p j = q j) : lnR n p = lnR n q := by
  unfold lnR
  rw [List.filter_congr fun x hx => e x (List.mem_range.mp hx)]
theorem lnR_le (n : Nat) (p : Nat → Bool) : lnR n p ≤ n := by
  have := List.length_filter_le p (List.range n)
  rw [List.length_range] at this
  exact this
section
variable {n : Nat} {keep : Nat → Bool} {F : Nat → Nat → Rat}
theorem ln_keep {g : Nat} (c : keep g = true) : lnR n (remB keep (g + 1)) = lnR n (remB keep g) := lnR_congr fun j _ => rem_keep c j
theorem ln_out {g : Nat} (hg : g < n) (c : ¬ keep g = true) : lnR n (remB keep g) = lnR n (remB keep (g + 1)) + 1 := by
  unfold lnR
  rw [lo_len (rem_out c) (rem_split c) n, if_pos hg]
theorem ln_end : lnR n (remB keep n) = lnR n keep := lnR_congr fun j hj => rem_end hj
theorem ln_ge : ∀ d g, g + d = n → lnR n keep ≤ lnR n (remB keep g)
  | 0, g, h => by
    have : g = n := by omega
    rw [this, ln_end]
    exact Nat.le_refl _
  | d + 1, g, h => by
    have ih := ln_ge d (g + 1) (by omega)
    by_cases c : keep g = true
    · rw [← ln_keep c]
      exact ih
    · rw [ln_out (by omega) c]
      omega
/-- one step's sizes -/
theorem el_sz {n g m B : Nat} {p q : Nat → Bool} {L : Nat → Nat → Rat} (hs : ∀ i j, i < n → j < n → p i = true → p j = true → Bq.Sz B (L i j)) (up : ∀ j, q j = true → p j = true) (hg : g < n) (pg : p g = true) (hm : lnR n q = m) (w : 0 < sS n q (L g)) :
    Bq.Sz (1 + m * (B + 1)) (sS n q (L g)) ∧ ∀ i j, i < n → j < n → p i = true → p j = true → Bq.Sz (B + B) (L i g * L g j) ∧ Bq.Sz (B + B + (1 + m * (B + 1))) (L i g * L g j / sS n q (L g)) ∧ Bq.Sz (B + (B + B + (1 + m * (B + 1))) + 1) (elQ (sS n q (L g)) g L i j) := by
  have h1 : Bq.Sz (1 + m * (B + 1)) (sS n q (L g)) := by
    rw [← hm]
    exact sS_sz fun j hj qj => hs g j hg hj pg (up j qj)
  refine ⟨h1, fun i j hi hj pi pj => ?_⟩
  have h2 := (hs i g hi hg pi pg).mul (hs g j hg hj pg pj)
  have h3 := h2.div h1 (Bq.num_pos.mpr w)
  exact ⟨h2, h3, (hs i j hi hj pi pj).add h3⟩
theorem lo_sz {s : Nat} (h0 : LoI n (fun _ => true) F) (n5 : n ≤ 5) {k : Nat} (hk : k < n) (kk : keep k = true) (k2 : 2 ≤ lnR n keep) (s0 : ∀ i j, i < n → j < n → Bq.Sz s (F i j)) :
    ∀ g, g ≤ n → ∀ i j, i < n → j < n → remB keep g i = true → remB keep g j = true → Bq.Sz (bL s (lnR n (remB keep g))) (loQ n keep F g i j)
  | 0, _, i, j, hi, hj, _, _ => (s0 i j hi hj).mono (bL_mono (Nat.le_trans (lnR_le n _) n5))
  | g + 1, hg, i, j, hi, hj, pi, pj => by
    have ih := lo_sz h0 n5 hk kk k2 s0 g (by omega)
    by_cases c : keep g = true
    · rw [lo_succ_keep c, ln_keep c]
      rw [rem_keep c] at pi pj
      exact ih i j hi hj pi pj
    · have l1 := ln_out (n := n) (by omega) c
      have l2 := ln_ge (n := n) (keep := keep) (n - (g + 1)) (g + 1) (by omega)
      have l3 := lnR_le n (remB keep g)
      have b := bL_step (s := s) (m := lnR n (remB keep (g + 1))) (by omega) (by omega)
      rw [lo_succ_out c]
      have := ((el_sz ih (fun j hj => rem_up hj) (show g < n by omega) (rem_self keep g) rfl (lo_whole h0 hk kk (by omega) c)).2 i j hi hj (rem_up pi) (rem_up pj)).2.2
      refine this.mono ?_
      rw [← b, l1]
      generalize bL s (lnR n (remB keep (g + 1)) + 1) = B at *
      generalize lnR n (remB keep (g + 1)) = m at *
      rw [Nat.add_mul, Nat.mul_add, Nat.mul_one]
      omega
end
/-! ### which cells are done -/
def Tel (n : Nat) (p : Nat → Bool) (S : List Nat) (E L : Nat → Nat → Rat) (a b : Nat) (R : Nat → Nat → Rat) : Prop :=
  ∀ i j, i < n → j < n → p i = true → p j = true → R i j = if j ∈ S ∧ (i ∈ S.take a ∨ (S[a]? = some i ∧ j ∈ S.take b)) then E i j else L i j
section
variable {n a b h t : Nat} {p : Nat → Bool} {S : List Nat} {E L R : Nat → Nat → Rat}
theorem take_mem {x : Nat} (e : S[b]? = some t) : x ∈ S.take (b + 1) ↔ x ∈ S.take b ∨ x = t := by
  rw [List.take_succ, e, List.mem_append]
  simp
theorem nd_take (nd : S.Nodup) (e : S[b]? = some t) : t ∉ S.take b := fun z => by
  obtain ⟨i, hi⟩ := List.mem_iff_getElem?.mp z
  have il := (List.getElem?_eq_some_iff.mp hi).1
  rw [List.length_take] at il
  rw [List.getElem?_take, if_pos (by omega)] at hi
  have bl := (List.getElem?_eq_some_iff.mp e).1
  have := (List.getElem?_inj (i := i) (j := b) (by omega) nd).mp (by rw [hi, e])
  omega
theorem Tel.start (e : ∀ i j, i < n → j < n → p i = true → p j = true → R i j = L i j) : Tel n p S E L 0 0 R := fun i j hi hj pi pj => by
  rw [e i j hi hj pi pj, if_neg]
  rintro ⟨_, z | ⟨_, z⟩⟩
  · simp at z
  · simp at z
theorem Tel.set (T : Tel n p S E L a b R) (nd : S.Nodup) (ea : S[a]? = some h) (eb : S[b]? = some t) : Tel n p S E L a (b + 1) (fun i j => if i = h ∧ j = t then E h t else R i j) := fun i j hi hj pi pj => by
  have bS : t ∈ S := List.mem_of_getElem? eb
  by_cases c : i = h ∧ j = t
  · show (if i = h ∧ j = t then E h t else R i j) = _
    rw [if_pos c, c.1, c.2, if_pos ⟨bS, .inr ⟨ea, (take_mem eb).mpr (.inr rfl)⟩⟩]
  · show (if i = h ∧ j = t then E h t else R i j) = _
    rw [if_neg c, T i j hi hj pi pj]
    have e : (j ∈ S ∧ (i ∈ S.take a ∨ (S[a]? = some i ∧ j ∈ S.take b))) ↔ (j ∈ S ∧ (i ∈ S.take a ∨ (S[a]? = some i ∧ j ∈ S.take (b + 1)))) := by
      refine and_congr_right fun _ => or_congr_right (and_congr_right fun ei => ?_)
      rw [take_mem eb]
      refine ⟨.inl, fun z => z.resolve_right fun y => c ⟨?_, y⟩⟩
      rw [ea] at ei
      exact (Option.some.inj ei).symm
    by_cases d : j ∈ S ∧ (i ∈ S.take a ∨ (S[a]? = some i ∧ j ∈ S.take b))
    · rw [if_pos d, if_pos (e.mp d)]
    · rw [if_neg d, if_neg fun z => d (e.mpr z)]
theorem Tel.at (T : Tel n p S E L a b R) (nd : S.Nodup) (ea : S[a]? = some h) (eb : S[b]? = some t) (hh : h < n) (ht : t < n) (ph : p h = true) (pt : p t = true) : R h t = L h t := by
  rw [T h t hh ht ph pt, if_neg]
  rintro ⟨_, z | ⟨_, z⟩⟩
  · exact nd_take nd ea z
  · exact nd_take nd eb z
theorem Tel.off {i j : Nat} (T : Tel n p S E L a b R) (hi : i < n) (hj : j < n) (pi : p i = true) (pj : p j = true) (o : i ∉ S ∨ j ∉ S) : R i j = L i j := by
  rw [T i j hi hj pi pj, if_neg]
  rintro ⟨z1, z | ⟨z, _⟩⟩
  · rcases o with o | o
    · exact o (List.mem_of_mem_take z)
    · exact o z1
  · rcases o with o | o
    · exact o (List.mem_of_getElem? z)
    · exact o z1
theorem Tel.next (T : Tel n p S E L a S.length R) (ea : S[a]? = some h) : Tel n p S E L (a + 1) 0 R := fun i j hi hj pi pj => by
  rw [T i j hi hj pi pj]
  have e : (j ∈ S ∧ (i ∈ S.take a ∨ (S[a]? = some i ∧ j ∈ S.take S.length))) ↔ (j ∈ S ∧ (i ∈ S.take (a + 1) ∨ (S[a + 1]? = some i ∧ j ∈ S.take 0))) := by
    refine and_congr_right fun hj => ?_
    rw [take_mem ea, List.take_length]
    constructor
    · rintro (z | ⟨z, _⟩)
      · exact .inl (.inl z)
      · rw [ea] at z
        exact .inl (.inr (Option.some.inj z).symm)
    · rintro ((z | z) | ⟨_, z⟩)
      · exact .inl z
      · exact .inr ⟨by rw [ea, z], hj⟩
      · simp at z
  by_cases d : j ∈ S ∧ (i ∈ S.take a ∨ (S[a]? = some i ∧ j ∈ S.take S.length))
  · rw [if_pos d, if_pos (e.mp d)]
  · rw [if_neg d, if_neg fun z => d (e.mpr z)]
theorem Tel.done {i j : Nat} (T : Tel n p S E L S.length 0 R) (hi : i < n) (hj : j < n) (pi : p i = true) (pj : p j = true) (si : i ∈ S) (sj : j ∈ S) : R i j = E i j := by
  rw [T i j hi hj pi pj, if_pos ⟨sj, .inl (by rw [List.take_length]; exact si)⟩]
end
end Bw
/-! Part 35. Bareiss' rule over all rows, with columns more: what stands beside the square then solves it. Plain mathematics. -/
namespace Bw
def gcl (E : Nat → Nat → Int) (t : Nat) (d : Int) : Nat → Nat → Int := fun i j => if i = t then E i j else (E i j * E t t - E i t * E t j) / d
def gj (A : Nat → Nat → Int) : Nat → Nat → Nat → Int
  | 0 => A
  | t + 1 => gcl (gj A t) t (bq A t)
theorem gj_bb (A : Nat → Nat → Int) : ∀ t i j, t ≤ i → t ≤ j → gj A t i j = bb A t (i - t) (j - t)
  | 0, _, _, _, _ => rfl
  | t + 1, i, j, hi, hj => by
    show (if i = t then gj A t i j else (gj A t i j * gj A t t t - gj A t i t * gj A t t j) / bq A t) = _
    rw [if_neg (by omega), bb_succ]
    unfold chio
    rw [gj_bb A t i j (by omega) (by omega), gj_bb A t t t (Nat.le_refl _) (Nat.le_refl _), gj_bb A t i t (by omega) (Nat.le_refl _), gj_bb A t t j (Nat.le_refl _) (by omega), Nat.sub_self,
      show i - (t + 1) + 1 = i - t by omega, show j - (t + 1) + 1 = j - t by omega, Int.mul_comm (bb A t (i - t) (j - t))]
theorem gj_pv (A : Nat → Nat → Int) (t : Nat) : gj A t t t = bq A (t + 1) := by
  rw [gj_bb A t t t (Nat.le_refl _) (Nat.le_refl _), Nat.sub_self]
  rfl
section
variable {n : Nat} {A : Nat → Nat → Int}
theorem Gd.pv_ne (g : Gd n A) {s : Nat} (hs : s < n) : bb A s 0 0 ≠ 0 := by
  have h := (g.pivots (s + 1) (by omega)).2
  rw [bq_succ] at h
  omega
theorem bb_exact (g : Gd n A) {t : Nat} (ht : t < n) (i j : Nat) : bq A t * bb A (t + 1) i j = chio (bb A t) i j := by
  have h := (bareiss t A fun s hs => g.pv_ne (by omega)).2 i j
  have p := (g.pivots t (by omega)).2
  rw [bb_succ, h, Int.mul_ediv_cancel_left _ (by omega)]
theorem low_exact (g : Gd n A) {t : Nat} (ht : t < n) {i j : Nat} (hi : t < i) (hj : t < j) : bq A t * gj A (t + 1) i j = gj A t i j * gj A t t t - gj A t i t * gj A t t j := by
  rw [gj_bb A (t + 1) i j (by omega) (by omega), bb_exact g ht]
  unfold chio
  rw [gj_bb A t i j (by omega) (by omega), gj_bb A t t t (Nat.le_refl _) (Nat.le_refl _), gj_bb A t i t (by omega) (Nat.le_refl _), gj_bb A t t j (Nat.le_refl _) (by omega), Nat.sub_self,
    show i - (t + 1) + 1 = i - t by omega, show j - (t + 1) + 1 = j - t by omega, Int.mul_comm (bb A t (i - t) (j - t))]
/-- Cramer's rule -/
theorem cramer {m : Nat} {B : Nat → Nat → Int} {z : Nat → Int} {u : Nat → Int} {c : Int} {a : Nat} (ha : a < m) (h : ∀ r, r < m → sZ m (fun k => z k * B r k) = c * u r) : c * det m (cl1 B a u) = z a * det m B := by
  have e1 := det_csum B a ha (fun k i => B i k) z m
  have e2 : det m (cl1 B a fun i => sZ m fun k => z k * B i k) = c * det m (cl1 B a u) := by
    have e3 := det_csum B a ha (fun _ i => u i) (fun _ => c) 1
    have e4 : det m (cl1 B a fun i => sZ 1 fun _ => c * u i) = sZ 1 fun _ => c * det m (cl1 B a u) := e3
    have e5 : (sZ 1 fun _ => c * det m (cl1 B a u)) = c * det m (cl1 B a u) := by
      show 0 + c * det m (cl1 B a u) = _
      omega
    rw [e5] at e4
    rw [← e4]
    refine det_congr fun i j hi hj => ?_
    unfold cl1
    split
    · show sZ m (fun k => z k * B i k) = 0 + c * u i
      rw [h i hi]
      omega
    · rfl
  rw [e2] at e1
  rw [e1, sZ_one (a := a) ha fun k hk ne => ?_, cl1_self]
  have : det m (cl1 B a fun i => B i k) = 0 := by
    by_cases c : a < k
    · refine det_calike (a := a) (b := k) c hk fun i => ?_
      unfold cl1
      rw [if_pos rfl, if_neg (by omega)]
    · refine det_calike (a := k) (b := a) (by omega) ha fun i => ?_
      unfold cl1
      rw [if_neg (by omega), if_pos rfl]
  rw [this, Int.mul_zero]
/-- where Bareiss' rule stands behind t columns -/
structure GJ (n : Nat) (A : Nat → Nat → Int) (t : Nat) : Prop where
  dg : ∀ i k, i < t → k < t → gj A t i k = if i = k then bq A t else 0
  nl : ∀ i k, t ≤ i → i < n → k < t → gj A t i k = 0
  up : ∀ r j, r < t → t ≤ j → sZ t (fun k => gj A t k j * A r k) = bq A t * A r j
  lo : ∀ i j, t ≤ i → i < n → t ≤ j → gj A t i j = bq A t * A i j - sZ t fun k => gj A t k j * A i k
theorem gj_step (g : Gd n A) {t : Nat} (ht : t < n) (h : GJ n A t) : GJ n A (t + 1) := by
  have d0 := (g.pivots t (by omega)).2
  have p0 := (g.pivots (t + 1) (by omega)).2
  have pe := gj_pv A t
  have detp : bq A (t + 1) = det (t + 1) A := (g.first (show t + 1 ≤ n by omega)).last
  have sl : ∀ i j, i ≠ t → gj A (t + 1) i j = (gj A t i j * gj A t t t - gj A t i t * gj A t t j) / bq A t := fun i j ne => by
    show (if i = t then gj A t i j else _) = _
    rw [if_neg ne]
  have st : ∀ j, gj A (t + 1) t j = gj A t t j := fun j => by
    show (if t = t then gj A t t j else _) = _
    rw [if_pos rfl]
  -- what solves the first t + 1 rows, times what divides
  have sol : ∀ j, t < j → ∀ r, r < t + 1 → sZ (t + 1) (fun k => (if k = t then bq A t * gj A t t j else gj A t k j * gj A t t t - gj A t k t * gj A t t j) * A r k) = (bq A t * gj A t t t) * A r j := fun j hj r hr => by
    have e1 : sZ (t + 1) (fun k => (if k = t then bq A t * gj A t t j else gj A t k j * gj A t t t - gj A t k t * gj A t t j) * A r k) = sZ t (fun k => gj A t t t * (gj A t k j * A r k) + (- gj A t t j) * (gj A t k t * A r k)) + bq A t * gj A t t j * A r t := by
      rw [sZ, if_pos rfl]
      congr 1
      refine sZ_congr fun k hk => ?_
      rw [if_neg (by omega)]
      generalize gj A t k j = x
      generalize gj A t t t = y
      generalize gj A t k t = z
      generalize gj A t t j = w
      generalize A r k = v
      grind
    rw [e1, sZ_add, sZ_mul, sZ_mul]
    by_cases c : r < t
    · rw [h.up r j c (by omega), h.up r t c (Nat.le_refl _)]
      generalize gj A t t t = y
      generalize gj A t t j = w
      generalize bq A t = d
      grind
    · have er : r = t := by omega
      subst er
      have l1 := h.lo r j (Nat.le_refl _) ht (by omega)
      have l2 := h.lo r r (Nat.le_refl _) ht (Nat.le_refl _)
      generalize (sZ r fun k => gj A r k j * A r k) = u at *
      generalize (sZ r fun k => gj A r k r * A r k) = v at *
      generalize gj A r r r = y at *
      generalize gj A r r j = w at *
      generalize bq A r = d at *
      grind
  -- the rows ahead: no rest is left
  have ex : ∀ i j, i < t → t < j → bq A t * gj A (t + 1) i j = gj A t i j * gj A t t t - gj A t i t * gj A t t j := fun i j hi hj => by
    have cr := cramer (m := t + 1) (B := A) (z := fun k => if k = t then bq A t * gj A t t j else gj A t k j * gj A t t t - gj A t k t * gj A t t j) (u := fun r => A r j) (c := bq A t * gj A t t t) (a := i) (by omega) fun r hr => sol j hj r hr
    try dsimp only at cr
    rw [if_neg (by omega), ← detp, ← pe] at cr
    have e2 : bq A t * det (t + 1) (cl1 A i fun r => A r j) = gj A t i j * gj A t t t - gj A t i t * gj A t t j := by
      have p1 : gj A t t t ≠ 0 := by
        rw [pe]
        omega
      refine Int.eq_of_mul_eq_mul_right p1 ?_
      rw [← cr]
      generalize det (t + 1) (cl1 A i fun r => A r j) = x
      generalize gj A t t t = y
      generalize bq A t = d
      grind
    rw [sl i j (by omega), ← e2, Int.mul_ediv_cancel_left _ (by omega)]
  refine ⟨fun i k hi hk => ?_, fun i k hi hin hk => ?_, fun r j hr hj => ?_, fun i j hi hin hj => ?_⟩
  · by_cases ci : i = t
    · subst ci
      rw [st]
      by_cases ck : k = i
      · rw [ck, if_pos rfl, pe]
      · rw [if_neg (fun z => ck z.symm), h.nl i k (Nat.le_refl _) ht (by omega)]
    · rw [sl i k ci]
      by_cases ck : k = t
      · rw [ck, if_neg ci, Int.sub_self]
        exact Int.zero_ediv _
      · rw [h.nl t k (Nat.le_refl _) ht (by omega), Int.mul_zero, Int.sub_zero, h.dg i k (by omega) (by omega)]
        split
        · rw [Int.mul_ediv_cancel_left _ (by omega), pe]
        · rw [Int.zero_mul]
          exact Int.zero_ediv _
  · rw [sl i k (by omega)]
    by_cases ck : k = t
    · rw [ck, Int.sub_self]
      exact Int.zero_ediv _
    · rw [h.nl i k (by omega) hin (by omega), h.nl t k (Nat.le_refl _) ht (by omega), Int.zero_mul, Int.mul_zero, Int.sub_self]
      exact Int.zero_ediv _
  · have s := sol j (by omega) r hr
    have e : sZ (t + 1) (fun k => (if k = t then bq A t * gj A t t j else gj A t k j * gj A t t t - gj A t k t * gj A t t j) * A r k) = sZ (t + 1) fun k => bq A t * (gj A (t + 1) k j * A r k) := sZ_congr fun k hk => by
      by_cases c : k = t
      · subst c
        rw [if_pos rfl, st, Int.mul_assoc]
      · rw [if_neg c, ← ex k j (by omega) (by omega), Int.mul_assoc]
    rw [e, sZ_mul] at s
    have d1 : bq A t ≠ 0 := by omega
    rw [Int.mul_assoc] at s
    have := Int.eq_of_mul_eq_mul_left d1 s
    rw [this, pe]
  · have e := low_exact g ht (i := i) (j := j) (by omega) (by omega)
    have d1 : bq A t ≠ 0 := by omega
    refine Int.eq_of_mul_eq_mul_left d1 ?_
    have l1 := h.lo i j (by omega) hin (by omega)
    have l2 := h.lo i t (by omega) hin (Nat.le_refl _)
    have e2 : bq A t * sZ (t + 1) (fun k => gj A (t + 1) k j * A i k) = sZ t (fun k => gj A t t t * (gj A t k j * A i k) + (- gj A t t j) * (gj A t k t * A i k)) + bq A t * (gj A t t j * A i t) := by
      rw [← sZ_mul, sZ, st]
      congr 1
      refine sZ_congr fun k hk => ?_
      rw [← Int.mul_assoc, ex k j hk (by omega)]
      generalize gj A t k j = x
      generalize gj A t t t = y
      generalize gj A t k t = z
      generalize gj A t t j = w
      generalize A i k = v
      grind
    rw [e, Int.mul_sub, e2, sZ_add, sZ_mul, sZ_mul, ← pe]
    generalize (sZ t fun k => gj A t k j * A i k) = u at *
    generalize (sZ t fun k => gj A t k t * A i k) = v at *
    generalize gj A t t t = y at *
    generalize gj A t t j = w at *
    generalize gj A t i j = a at *
    generalize gj A t i t = b at *
    generalize bq A t = d at *
    grind
theorem gj_all (g : Gd n A) : ∀ t, t ≤ n → GJ n A t
  | 0, _ => ⟨fun i k hi => by omega, fun i k _ _ hk => by omega, fun r j hr => by omega, fun i j _ _ _ => by
    show A i j = 1 * A i j - 0
    omega⟩
  | t + 1, ht => gj_step g (by omega) (gj_all g t (by omega))
/-- the columns more, over the determinant, solve the square -/
theorem gj_solves (g : Gd n A) {r j : Nat} (hr : r < n) (hj : n ≤ j) : sZ n (fun k => gj A n k j * A r k) = det n A * A r j := by
  rw [← g.last]
  exact (gj_all g n (Nat.le_refl _)).up r j hr hj
theorem gj_det (g : Gd n A) {k j : Nat} (hk : k < n) (hj : n ≤ j) : gj A n k j = det n (cl1 A k fun r => A r j) := by
  have cr := cramer (m := n) (B := A) (z := fun k => gj A n k j) (u := fun r => A r j) (c := det n A) (a := k) hk fun r hr => gj_solves g hr hj
  have d0 := g.det
  have d1 : det n A ≠ 0 := by omega
  refine Int.eq_of_mul_eq_mul_left d1 ?_
  rw [cr, Int.mul_comm]
end
theorem sZ_abs {f : Nat → Int} {B : Nat} : ∀ {n : Nat}, (∀ i, i < n → (f i).natAbs ≤ B) → (sZ n f).natAbs ≤ n * B
  | 0, _ => by
    show (0 : Int).natAbs ≤ 0 * B
    simp
  | n + 1, h => by
    have h1 := sZ_abs (f := f) (B := B) (n := n) fun i hi => h i (by omega)
    have h2 := h n (by omega)
    rw [sZ, Nat.succ_mul]
    omega
/-- how long a determinant gets -/
theorem det_abs {b : Nat} : ∀ {n : Nat} {A : Nat → Nat → Int}, n ≤ 7 → (∀ i j, i < n → j < n → (A i j).natAbs < 2 ^ b) → (det n A).natAbs ≤ 2 ^ (n * (b + 3))
  | 0, _, _, _ => by
    rw [Nat.zero_mul]
    exact Nat.le_refl 1
  | n + 1, A, hn, h => by
    have each : ∀ i, i < n + 1 → (sg i * A i 0 * det n (mn A i)).natAbs ≤ 2 ^ b * 2 ^ (n * (b + 3)) := fun i hi => by
      have ih := det_abs (b := b) (n := n) (A := mn A i) (by omega) fun r c hr hc => by
        show (A (if r < i then r else r + 1) (c + 1)).natAbs < _
        refine h _ _ ?_ (by omega)
        split <;> omega
      rw [Int.natAbs_mul, Int.natAbs_mul]
      have e1 : (sg i).natAbs = 1 := by
        unfold sg
        split <;> rfl
      rw [e1, Nat.one_mul]
      exact Nat.mul_le_mul (Nat.le_of_lt (h i 0 hi (by omega))) ih
    have e : det (n + 1) A = sZ (n + 1) fun i => sg i * A i 0 * det n (mn A i) := rfl
    rw [e]
    have h1 := sZ_abs each
    have h2 : (n + 1) * (2 ^ b * 2 ^ (n * (b + 3))) ≤ 2 ^ 3 * (2 ^ b * 2 ^ (n * (b + 3))) := Nat.mul_le_mul_right _ (by omega)
    have h3 : 2 ^ 3 * (2 ^ b * 2 ^ (n * (b + 3))) = 2 ^ ((n + 1) * (b + 3)) := by
      rw [← Nat.pow_add, ← Nat.pow_add]
      congr 1
      rw [Nat.succ_mul]
      omega
    omega
end Bw
set_option exponentiation.threshold 4000
/-! What stands beside the well (ears left out). -/
namespace Kx
open PySem PySem.Spec PyProof.Rows L2 Bw
def nats (S : List Nat) : List V := S.map fun k : Nat => V.int k
theorem nats_len (S : List Nat) : (nats S).length = S.length := List.length_map _
theorem nats_get {S : List Nat} {i : Nat} {v : V} (h : (nats S)[i]? = some v) : ∃ k, S[i]? = some k ∧ v = .int (k : Nat) := by
  obtain ⟨k, h1, h2⟩ := map_some h
  exact ⟨k, h1, h2.symm⟩
theorem erase_nats : ∀ (S : List Nat) (i : Nat), (nats S).eraseIdx i = nats (S.eraseIdx i)
  | [], _ => rfl
  | a :: S, 0 => rfl
  | a :: S, i + 1 => congrArg (V.int (a : Nat) :: ·) (erase_nats S i)
theorem seqI {i n : Nat} (h : i < n) : seqIndex? (i : Int) n = some i := by
  rw [seqIndex_of (by omega) (by omega)]
  rfl
/-- the pairs E stand at ts -/
def TupsAt (H : Hp) (ts : List Addr) (E : List (Nat × Nat)) : Prop := ts.length = E.length ∧ ∀ (i : Nat) t e, ts[i]? = some t → E[i]? = some e → H t = some (.tup [.int (e.1 : Nat), .int (e.2 : Nat)])
theorem TupsAt.mono {H H' : Hp} {ts : List Addr} {E : List (Nat × Nat)} (h : TupsAt H ts E) (k : ∀ t xs, H t = some (.tup xs) → H' t = some (.tup xs)) : TupsAt H' ts E := ⟨h.1, fun i t e h1 h2 => k _ _ (h.2 i t e h1 h2)⟩
theorem TupsAt.snoc {H : Hp} {ts : List Addr} {E : List (Nat × Nat)} (h : TupsAt H ts E) {t : Addr} {a b : Nat} (e : H t = some (.tup [.int (a : Nat), .int (b : Nat)])) : TupsAt H (ts ++ [t]) (E ++ [(a, b)]) := by
  refine ⟨by rw [List.length_append, List.length_append, h.1]; rfl, fun i t' e' h1 h2 => ?_⟩
  have hl := h.1
  by_cases c : i < ts.length
  · rw [List.getElem?_append_left c] at h1
    rw [List.getElem?_append_left (by omega)] at h2
    exact h.2 i t' e' h1 h2
  · have hi : i = ts.length := by
      have := (List.getElem?_eq_some_iff.mp h1).1
      rw [List.length_append, List.length_singleton] at this
      omega
    rw [List.getElem?_append_right (by omega), show i - ts.length = 0 by omega] at h1
    rw [List.getElem?_append_right (by omega), show i - E.length = 0 by omega] at h2
    have h1' : t = t' := by simpa using h1
    have h2' : (a, b) = e' := by simpa using h2
    rw [← h1', ← h2']
    exact e
theorem WellAt.frame {w l m : Addr} {o : HO} {H : Hp} (h : WellAt w l H) (h1 : m ≠ w) (h2 : m ≠ l) : WellAt w l (upd H m o) := by
  obtain ⟨st, n, ns, e1, e2, e3, e4⟩ := h
  exact ⟨st, n, ns, by rw [upd_ne (Ne.symm h1)]; exact e1, e2, by rw [upd_ne (Ne.symm h2)]; exact e3, e4⟩
theorem WellAt.new {w l m : Addr} {o : HO} {H : Hp} (h : WellAt w l H) (hm : H m = none) : WellAt w l (upd H m o) := by
  have h' := h
  obtain ⟨st, n, ns, e1, e2, e3, e4⟩ := h'
  exact h.frame (Ne.symm (ne_of_none e1 hm)) (Ne.symm (ne_of_none e3 hm))
theorem WellAt.ne {w l m : Addr} {H : Hp} (h : WellAt w l H) (hm : H m = none) : m ≠ w ∧ m ≠ l := by
  obtain ⟨st, n, ns, e1, e2, e3, e4⟩ := h
  exact ⟨Ne.symm (ne_of_none e1 hm), Ne.symm (ne_of_none e3 hm)⟩
theorem WellAt.notTup {w l : Addr} {H : Hp} {xs : List V} (h : WellAt w l H) {t : Addr} (e : H t = some (.tup xs)) : t ≠ w := by
  obtain ⟨st, n, ns, e1, _⟩ := h
  intro z
  rw [z, e1] at e
  cases e

section
variable {H0 H H' : Hp} {w l l' : Addr}
theorem well_ne {x : Addr} {o : HO} (h : l' = l ∨ H l' = none) (c : x ≠ l) (e : H x = some o) : x ≠ l' := by
  rcases h with h | h
  · rw [h]
    exact c
  · exact ne_of_none e h
theorem tup_frame {H : Hp} {m : Addr} {o : HO} (hm : ∀ xs, H m ≠ some (.tup xs)) : ∀ t xs, H t = some (.tup xs) → (upd H m o) t = some (.tup xs) := fun t xs e => by
  rw [upd_ne (fun z => hm xs (by rw [← z]; exact e))]
  exact e
theorem well_sameS {H H' : Hp} {w l : Addr} (W : WellAt w l H) (s : Same H H') : WellAt w l H' := by
  obtain ⟨st, x, ns, e1, e2, e3, e4⟩ := W
  exact ⟨st, x, ns, s _ _ e1, e2, s _ _ e3, e4⟩
theorem ixNat {n j : Nat} (hj : j < n) : ixN n (j : Int) = some j := by
  unfold ixN
  rw [if_pos (by omega), if_pos (by omega)]
  rfl
end
end Kx
set_option exponentiation.threshold 4000
/-! Rows in lists of one's own; products. -/
namespace Kx
open PySem PySem.Spec PyProof.Rows L2 Bw
abbrev s_law_times : Stmt := topS 48
abbrev n_law_times : List Str := ["here", "there"]
theorem c_law_times : FnScope n_law_times ["here", "there"] (defScope s_law_times) :=
  ⟨rfl, rfl, rfl, by decide +kernel, rfl, by decide +kernel, by decide +kernel⟩

/-- the fraction q, a tuple of the heap -/
def FrA (H : Hp) (v : V) (q : Rat) : Prop := ∃ a, v = .ref a ∧ H a = some (.tup [.int q.num, .int q.den])
theorem FrA.same {H H' : Hp} {v : V} {q : Rat} (s : Same H H') (h : FrA H v q) : FrA H' v q := by
  obtain ⟨a, rfl, e⟩ := h
  exact ⟨a, rfl, s _ _ e⟩
theorem FrA.fr {K : PySem.W.Frag} {H : Hp} {v : V} {q : Rat} (h : FrA H v q) : FrR K H v q := by
  obtain ⟨a, rfl, e⟩ := h
  exact ⟨a, rfl, .of e⟩
theorem FrA.frame {H : Hp} {v : V} {q : Rat} {m : Addr} {o : HO} (h : FrA H v q) (hm : ∀ xs, H m ≠ some (.tup xs)) : FrA (upd H m o) v q := by
  obtain ⟨a, rfl, e⟩ := h
  exact ⟨a, rfl, tup_frame hm _ _ e⟩
theorem dq_frA {W : Addr → Prop} {H : Hp} {v : V} {q : Rat} (h : Dq W H v (frD q)) : FrA H v q := by
  obtain ⟨a, rfl, _, e⟩ := h.frI
  exact ⟨a, rfl, e⟩
/-- a square of fractions in lists of its own -/
structure MatH (H0 H : Hp) (D : Addr) (rs : List Addr) (n : Nat) (R : Nat → Nat → Rat) : Prop where
  s : Same H0 H
  eD : H D = some (.lst (rs.map V.ref))
  len : rs.length = n
  nd : ∀ (i j : Nat) r, rs[i]? = some r → rs[j]? = some r → i = j
  row : ∀ (i : Nat) r, rs[i]? = some r → ∃ xs, H r = some (.lst xs) ∧ xs.length = n ∧ ∀ (j : Nat) v, xs[j]? = some v → FrA H v (R i j)
  n1 : H0 D = none
  n2 : ∀ r ∈ rs, H0 r = none ∧ r ≠ D
section
variable {H0 H H' : Hp} {D m : Addr} {rs : List Addr} {n : Nat} {R : Nat → Nat → Rat} {o : HO}
theorem MatH.grow (h : MatH H0 H D rs n R) (s : Same H H') : MatH H0 H' D rs n R :=
  ⟨h.s.trans s, s _ _ h.eD, h.len, h.nd, fun i r e => by
    obtain ⟨xs, e1, e2, e3⟩ := h.row i r e
    exact ⟨xs, s _ _ e1, e2, fun j v ev => (e3 j v ev).same s⟩, h.n1, h.n2⟩
theorem MatH.at (h : MatH H0 H D rs n R) {i : Nat} (hi : i < n) : ∃ r xs, rs[i]? = some r ∧ H r = some (.lst xs) ∧ xs.length = n ∧ ∀ (j : Nat) v, xs[j]? = some v → FrA H v (R i j) := by
  have hl := h.len
  have e : rs[i]? = some (rs[i]'(by omega)) := List.getElem?_eq_getElem (by omega)
  obtain ⟨xs, e1, e2, e3⟩ := h.row i _ e
  exact ⟨_, xs, e, e1, e2, e3⟩
theorem MatH.set (h : MatH H0 H D rs n R) {a b : Nat} {r : Addr} {xs : List V} {v : V} {q : Rat} (e1 : rs[a]? = some r) (ex : H r = some (.lst xs)) (hv : FrA H v q) :
    MatH H0 (upd H r (.lst (xs.set b v))) D rs n (fun i j => if i = a ∧ j = b then q else R i j) := by
  have hr := List.mem_of_getElem? e1
  obtain ⟨b1, b2⟩ := h.n2 r hr
  have nt : ∀ xs, H r ≠ some (.tup xs) := fun xs => by rw [ex]; exact fun z => nomatch z
  obtain ⟨xs', ex', hl, ha⟩ := h.row a r e1
  rw [ex] at ex'
  cases ex'
  refine ⟨same_mut h.s b1, by rw [upd_ne (Ne.symm b2)]; exact h.eD, h.len, h.nd, fun i r' f1 => ?_, h.n1, h.n2⟩
  by_cases c : i = a
  · subst c
    rw [e1] at f1
    obtain rfl := Option.some.inj f1
    refine ⟨_, upd_same, by rw [List.length_set, hl], fun j u g => ?_⟩
    by_cases cj : j = b
    · subst cj
      have l1 := (List.getElem?_eq_some_iff.mp g).1
      rw [List.length_set] at l1
      rw [List.getElem?_set_self l1] at g
      obtain rfl := Option.some.inj g
      rw [if_pos ⟨rfl, rfl⟩]
      exact hv.frame nt
    · rw [List.getElem?_set_ne (Ne.symm cj)] at g
      rw [if_neg fun z => cj z.2]
      exact (ha j u g).frame nt
  · have ne : r' ≠ r := fun z => c (h.nd i a r (by rw [← z]; exact f1) e1)
    obtain ⟨ys, g1, g2, g3⟩ := h.row i r' f1
    refine ⟨ys, by rw [upd_ne ne]; exact g1, g2, fun j u g => ?_⟩
    rw [if_neg fun z => c z.1]
    exact (g3 j u g).frame nt
end
theorem MatH.other {H0 H : Hp} {D m : Addr} {rs : List Addr} {n : Nat} {R : Nat → Nat → Rat} {o : HO} (h : MatH H0 H D rs n R) (hm : ∀ xs, H m ≠ some (.tup xs)) (m0 : H0 m = none) (h1 : m ≠ D) (h2 : m ∉ rs) : MatH H0 (upd H m o) D rs n R :=
  ⟨same_mut h.s m0, by rw [upd_ne (Ne.symm h1)]; exact h.eD, h.len, h.nd, fun i r e => by
    obtain ⟨xs, e1, e2, e3⟩ := h.row i r e
    have ne : r ≠ m := fun z => h2 (by rw [← z]; exact List.mem_of_getElem? e)
    exact ⟨xs, by rw [upd_ne ne]; exact e1, e2, fun j v ev => (e3 j v ev).frame hm⟩, h.n1, h.n2⟩
section
variable {P : Program} {w : World} {K : PySem.W.Frag} {mg : Str → Option Value} {base : Heap}
/-- the product of two fractions -/
def spTimes (K : PySem.W.Frag) : Sp := fun vs H Q _ => ∃ (v u : V) (p q : Rat) (m n : Nat), vs = [v, u] ∧ FrR K H v p ∧ FrR K H u q ∧ Bq.Sz m p ∧ Bq.Sz n q ∧ m + n ≤ 9000 ∧
  ∀ a, H a = none → Q (.ref a) (upd H a (.tup [.int (p * q).num, .int (p * q).den]))
theorem ok_ltimes {f : Addr} {fd : FuncData} (F : Fun K "_law_times" "_law_times" s_law_times f fd) (M : Mb mg) (Dlaw_frac : Df P w K mg base 1 "_law_frac" ["up", "down"] spLowest) : FnOk P w K mg base CX0 2 f fd ["here", "there"] (spTimes K) := by
  refine F.ok c_law_times (fun vs H Q E h => ?_) (fun cdv A outer s H vs Q E hr h => ?_)
  · obtain ⟨v, u, p, q, m, n, rfl, _⟩ := h
    rfl
  · obtain ⟨v, u, p, r, m, n, rfl, ⟨a, rfl, ha⟩, ⟨b, rfl, hb⟩, sp, sr, hmn, q⟩ := h
    refine ⟨_, (pss_one (ps_ret (pe_call Dlaw_frac.G (hr.mono (by first | decide | omega)) rfl Dlaw_frac.g Dlaw_frac.kp Dlaw_frac.b .nil pass0 (pa_cons (pe_op op_mulW (pe_ix ix_tup (pv 0) pe_int (fun _ _ => rfl)) (pe_ix ix_tup (pv 1) pe_int (fun _ _ => rfl))) (pa_cons (pe_op op_mulW (pe_ix ix_tup (pv 0) pe_int (fun _ _ => rfl)) (pe_ix ix_tup (pv 1) pe_int (fun _ _ => rfl))) pa_nil))))), ?_⟩
    have m0 := sz_pos sp
    have n0 := sz_pos sr
    refine ⟨_, rfl, a, _, 0, _, rfl, rfl, ha, rfl, _, rfl, b, _, 0, _, rfl, rfl, hb, rfl, _, _, rfl, rfl, mulW sp.1 sr.1 m0 n0 hmn, ?_⟩
    refine ⟨_, rfl, a, _, 1, _, rfl, rfl, ha, rfl, _, rfl, b, _, 1, _, rfl, rfl, hb, rfl, _, _, rfl, rfl, mulW (Bq.den_abs sp) (Bq.den_abs sr) m0 n0 hmn, ?_⟩
    refine ⟨_, _, m + n, rfl, Bq.dens_pos p r, Bq.dens sp sr, hmn, fun x hx => ?_⟩
    have q' := q x hx
    rw [← Bq.q_mul] at q'
    exact q'
end
end Kx
set_option exponentiation.threshold 30000
/-! Part 30. math.lcm of long numbers; pivots are not long. -/
namespace Bw
open PySem PySem.Spec PyProof.Rows L2
section
variable {X : Cx}
def rLcmW : List V → Hp → VK → Prop := fun vs H Q => ∃ a b : Int, vs = [.int a, .int b] ∧ a.natAbs < 2 ^ 13000 ∧ b.natAbs < 2 ^ 13000 ∧ Q (.int ((Nat.lcm a.natAbs b.natAbs : Nat) : Int)) H
theorem log_30 {n : Nat} (h : n < 2 ^ 13000) : ¬ n.log2 / 30 + 1 > 450 := by
  have h1 : n.log2 ≤ 12999 := PySem.W.mg_log (show n < 2 ^ (12999 + 1) from h)
  omega
theorem cr_lcmW : CallR X (.builtin "math.lcm") rLcmW := by
  intro pins s σ H vs us Q I r h
  obtain ⟨a, b, rfl, ha, hb, q⟩ := h
  obtain ⟨t, u, rfl⟩ := Vals.int2 r
  have one : (1 : Nat) < 2 ^ 13000 := Nat.one_lt_two_pow (by decide)
  have h1 : max 1 a.natAbs < 2 ^ 13000 := Nat.max_lt.mpr ⟨one, ha⟩
  have h2 : max a.natAbs b.natAbs < 2 ^ 13000 := Nat.max_lt.mpr ⟨ha, hb⟩
  have hl : (a.natAbs.lcm b.natAbs).log2 < bitsLine := PySem.W.mc_size (k := 500) (Nat.le_trans (PySem.W.mc_lcm_le _ _) (Nat.le_trans (Nat.mul_le_mul (Nat.le_of_lt ha) (Nat.le_of_lt hb)) (by rw [← Nat.pow_add]; exact Nat.pow_le_pow_right (by decide) (by decide)))) (by decide)
  have hr := PySem.W.mg_run_lcm a t b u (log_30 h1) (log_30 h2) (by rw [PySem.W.mc_lcm_one]; exact hl)
  rw [PySem.W.mc_lcm_one] at hr
  exact call_function_meets PySem.W.MGF.kind_lcm PySem.W.MGF.plain_lcm PySem.W.MGF.entry_lcm (PySem.W.MGF.args_lcm _ _) hr.meets ⟨.int _, H, I.tok _, ⟨_, rfl⟩, q⟩
end
theorem bq_lt {n t b : Nat} {E : Nat → Nat → Int} (g : Gd n E) (ht : t ≤ n) (h : ∀ i j, i < n → j < n → (E i j).natAbs < 2 ^ b) : (bq E t).natAbs < 2 ^ (1 + t * b) := by
  have g1 := g.first ht
  have e1 := g1.last
  have e2 := g1.det_le
  have e3 := g1.det
  have e4 := pZ_lt (f := fun i => E i i) (b := b) (n := t) fun i hi => h i i (by omega) (by omega)
  rw [e1]
  omega
end Bw
set_option exponentiation.threshold 10000
/-! The program's determinants. -/
namespace Kx
open PySem PySem.Spec PyProof.Rows L2 Bw
abbrev scommon_bottom : Stmt := topS 17
abbrev ncommon_bottom : List Str := ["fractions", "shared", "fraction"]
theorem ccommon_bottom : FnScope ncommon_bottom ["fractions"] (defScope scommon_bottom) :=
  ⟨rfl, rfl, rfl, by decide +kernel, rfl, by decide +kernel, by decide +kernel⟩

abbrev sscaled_by : Stmt := topS 19
abbrev nscaled_by : List Str := ["row", "number", "top", "bottom"]
theorem cscaled_by : FnScope nscaled_by ["row", "number"] (defScope sscaled_by) :=
  ⟨rfl, rfl, rfl, by decide +kernel, rfl, by decide +kernel, by decide +kernel⟩

abbrev sscaled_row : Stmt := topS 18
abbrev nscaled_row : List Str := ["row"]
theorem cscaled_row : FnScope nscaled_row ["row"] (defScope sscaled_row) :=
  ⟨rfl, rfl, rfl, by decide +kernel, rfl, by decide +kernel, by decide +kernel⟩

abbrev spivot_from : Stmt := topS 20
abbrev npivot_from : List Str := ["rows", "at", "index"]
theorem cpivot_from : FnScope npivot_from ["rows", "at"] (defScope spivot_from) :=
  ⟨rfl, rfl, rfl, by decide +kernel, rfl, by decide +kernel, by decide +kernel⟩

abbrev scleared : Stmt := topS 21
abbrev ncleared : List Str := ["rows", "at", "divisor", "lead", "result", "index", "row", "number", "top"]
theorem ccleared : FnScope ncleared ["rows", "at", "divisor"] (defScope scleared) :=
  ⟨rfl, rfl, rfl, by decide +kernel, rfl, by decide +kernel, by decide +kernel⟩

abbrev sreduced : Stmt := topS 22
abbrev nreduced : List Str := ["rows", "result", "divisor", "at", "pivot", "number"]
theorem creduced : FnScope nreduced ["rows"] (defScope sreduced) :=
  ⟨rfl, rfl, rfl, by decide +kernel, rfl, by decide +kernel, by decide +kernel⟩

theorem mulWL {x y : Int} {m n : Nat} (hx : x.natAbs < 2 ^ m) (hy : y.natAbs < 2 ^ n) (m0 : 0 < m) (n0 : 0 < n) (h : m + n ≤ 900000) : CMulW x y := wide_mul hx hy m0 n0 (by omega)
/-- the program's name for math.lcm -/
structure Ml (mg : Str → Option Value) : Prop where
  lcm : mg "lcm" = some (.builtin "math.lcm")
section
variable {P : Program} {w : World} {K : PySem.W.Frag} {mg : Str → Option Value} {base : Heap}
/-- the least number that makes a row whole -/
def spCb (K : PySem.W.Frag) : Sp := fun vs H Q _ => ∃ (a : Addr) (xs : List V) (qs : List Rat) (R rb : Nat), vs = [.ref a] ∧ SqL K H a xs ∧ FrRow K H xs qs ∧ 0 < R ∧ R < 2 ^ rb ∧ rb ≤ 400 ∧ (∀ q ∈ qs, q.den ∣ R) ∧ Q (.int (cb qs : Nat)) H
theorem ok_cb {f : Addr} {fd : FuncData} (F : Fun K "common_bottom" "common_bottom" scommon_bottom f fd) (M : Mb mg) (Z : Ml mg) : FnOk P w K mg base CX0 1 f fd ["fractions"] (spCb K) := by
  refine F.ok ccommon_bottom (fun vs H Q E h => ?_) (fun cdv A outer s H vs Q E hr h => ?_)
  · obtain ⟨a, xs, qs, R, rb, rfl, _⟩ := h
    rfl
  · obtain ⟨a, xs, qs, R, rb, rfl, ha, hx, r0, r1, r4, hq, q⟩ := h
    refine ⟨_, (pss_cons (ps_set (i := 1) ccommon_bottom.nd rfl (.inl rfl) pe_int)
 (pss_cons (ps_for PassesOwn.never rfl (pi_list (pv 0)) (pg_name (i := 2) ccommon_bottom.nd rfl (.inl rfl))
 (pss_one (ps_set (i := 1) ccommon_bottom.nd rfl (.inl rfl) (pe_callBfun cr_lcmW (by rfl) Z.lcm (pa_cons (pv 1) (pa_cons (pe_ix ix_tup (pv 2) pe_int (fun _ _ => rfl)) pa_nil))))))
 (pss_one (ps_ret (pv 1))))), ?_⟩
    refine ⟨_, rfl, a, rfl, ⟨_, ha⟩, for_list (K := K) (a := a) (xs := xs)
      (fun i σ H' => ∃ y, σ = [some (.ref a), some (.int (cb (qs.take i) : Nat)), y] ∧ H' = H)
      ⟨none, rfl, rfl⟩ (fun i σ H' _ ⟨_, _, e⟩ => by rw [e]; exact ha) ?_ ?_⟩
    · rintro i x σ H1 hi ⟨y, rfl, rfl⟩
      have hl : i < qs.length := by
        rw [← hx.1]
        exact (List.getElem?_eq_some_iff.mp hi).1
      have e : qs[i]? = some qs[i] := List.getElem?_eq_getElem hl
      obtain ⟨p, rfl, hp⟩ := hx.2 i x _ hi e
      have b1 : cb (qs.take i) ∣ R := cb_dvd fun q hq' => hq q (List.mem_of_mem_take hq')
      have b2 := hq _ (List.mem_of_getElem? e)
      have l1 := Nat.le_of_dvd r0 b1
      have l2 := Nat.le_of_dvd r0 b2
      refine ⟨_, rfl, _, rfl, p, _, 1, _, rfl, rfl, hp, rfl, _, _, rfl, by rw [Int.natAbs_natCast]; exact Nat.lt_of_le_of_lt l1 (Nat.lt_of_lt_of_le r1 (Nat.pow_le_pow_right (by decide) (by omega))), by rw [Int.natAbs_natCast]; exact Nat.lt_of_le_of_lt l2 (Nat.lt_of_lt_of_le r1 (Nat.pow_le_pow_right (by decide) (by omega))), ?_⟩
      rw [Int.natAbs_natCast, Int.natAbs_natCast, ← cb_take e]
      exact ⟨_, rfl, rfl⟩
    · rintro σ H1 ⟨y, rfl, rfl⟩
      rw [hx.1, List.take_length]
      exact ⟨_, rfl, q⟩
/-- a list of whole numbers -/
def intsV (zs : List Int) : List V := zs.map V.int
/-- a row of fractions times a number that makes it whole -/
def spScaled (K : PySem.W.Frag) : Sp := fun vs H Q _ => ∃ (a : Addr) (xs : List V) (qs : List Rat) (L n rb : Nat), vs = [.ref a, .int (L : Nat)] ∧ SqL K H a xs ∧ FrRow K H xs qs ∧ L < 2 ^ rb ∧ 0 < rb ∧ (∀ q ∈ qs, q.den ∣ L) ∧ (∀ q ∈ qs, Bq.Sz n q) ∧ n + rb ≤ 9000 ∧ qs.length ≤ 100 ∧
  ∀ D H', Same H H' → H D = none → H' D = some (.lst (intsV (qs.map (upZ L)))) → Q (.ref D) H'
theorem ok_scaled {f : Addr} {fd : FuncData} (F : Fun K "scaled_by" "scaled_by" sscaled_by f fd) (M : Mb mg) : FnOk P w K mg base CX0 1 f fd ["row", "number"] (spScaled K) := by
  refine F.ok cscaled_by (fun vs H Q E h => ?_) (fun cdv A outer s H vs Q E hr h => ?_)
  · obtain ⟨a, xs, qs, L, n, rb, rfl, _⟩ := h
    rfl
  · obtain ⟨a, xs, qs, L, n, rb, rfl, ha, hx, lb, rb0, hd, sz, hn, hl, q⟩ := h
    refine ⟨_, (pss_one (ps_ret (pe_lc (own := [("top", 2), ("bottom", 3)]) rfl cscaled_by.nd (pi_list (pv 0)) (blkOk_by (own := [("top", 2), ("bottom", 3)]) (N := nscaled_by) (sc := defScope sscaled_by) (by decide +kernel)) (fun _ _ _ _ _ => (pg_tupK (K := K) (n := 2) rfl rfl (pgs_cons (pg_name (i := 2) cscaled_by.nd rfl (.inl rfl)) (pgs_cons (pg_name (i := 3) cscaled_by.nd rfl (.inl rfl)) pgs_nil)))) (fun _ _ _ _ _ => pts_nil) (fun _ _ _ _ _ => (pe_op op_mulW (pv 2) (pe_op op_fdivW (pv 1) (pv 3))))))), ?_⟩
    have xl := hx.1
    refine ⟨_, rfl, a, rfl, ⟨xs, ha⟩, fun D nD => lc_rel (walk_list (K := K) (a := a) (xs := xs)) No (fun H' i y => ∃ p, qs[i]? = some p ∧ y = .int (upZ L p))
      (fun H H' i v k r => r) nD (fun _ z => z.elim) (by omega) (fun H' k' => (no_same k').seq ha) ?_ ?_⟩
    · rintro i x H2 _ Q' hi k2 nD2 ⟨rfl, hx2⟩ q'
      have e : qs[i]? = some (qs[i]'(by omega)) := List.getElem?_eq_getElem (by omega)
      have s2 := no_same k2
      obtain ⟨p, rfl, hp⟩ := (hx.2 i x _ hx2 e).same s2
      have sp := sz _ (List.mem_of_getElem? e)
      have n0 := sz_pos sp
      have dp := Bq.den_pos (qs[i]'(by omega))
      · refine ⟨p, _, rfl, hp, rfl, _, _, rfl, _, _, rfl, rfl, rfl, ?_⟩
        refine ⟨_, rfl, _, rfl, _, rfl, _, _, rfl, rfl, wide_div (b := n) (by omega) (Bq.den_abs sp) n0 (by omega), _, _, rfl, rfl, mulW (n := rb) sp.1 ?_ n0 rb0 hn, ?_⟩
        · have h1 : (0 : Int) ≤ (L : Int) / (((qs[i]'(by omega)).den : Nat) : Int) := Int.ediv_nonneg (by omega) (by omega)
          have h2 : (L : Int) / (((qs[i]'(by omega)).den : Nat) : Int) ≤ L := Int.ediv_le_self _ (by omega)
          omega
        exact q' _ _ (Kp.refl _) ⟨_, e, rfl⟩
    · rintro H2 acc k2 eD hla ha2
      refine q D H2 (no_same k2) nD ?_
      have : acc = intsV (qs.map (upZ L)) := by
        refine List.ext_getElem? fun i => ?_
        by_cases c : i < acc.length
        · obtain ⟨p, e, h⟩ := ha2 i _ (List.getElem?_eq_getElem c)
          unfold intsV
          rw [List.getElem?_eq_getElem c, h, List.getElem?_map, List.getElem?_map, e]
          rfl
        · rw [List.getElem?_eq_none (by omega), List.getElem?_eq_none]
          unfold intsV
          rw [List.length_map, List.length_map]
          omega
      rw [← this]
      exact eD
/-- a row of fractions times the least number that makes it whole -/
def spScaledR (K : PySem.W.Frag) : Sp := fun vs H Q _ => ∃ (a : Addr) (xs : List V) (qs : List Rat) (R n rb : Nat), vs = [.ref a] ∧ SqL K H a xs ∧ FrRow K H xs qs ∧ 0 < R ∧ R < 2 ^ rb ∧ 0 < rb ∧ rb ≤ 400 ∧ (∀ q ∈ qs, q.den ∣ R) ∧ (∀ q ∈ qs, Bq.Sz n q) ∧ n + rb ≤ 9000 ∧ qs.length ≤ 100 ∧
  ∀ D H', Same H H' → H D = none → H' D = some (.lst (intsV (qs.map (upZ (cb qs))))) → Q (.ref D) H'
theorem ok_scaledr {f : Addr} {fd : FuncData} (F : Fun K "scaled_row" "scaled_row" sscaled_row f fd) (M : Mb mg) (Dcommon_bottom : Df P w K mg base 1 "common_bottom" ["fractions"] (spCb K)) (Dscaled_by : Df P w K mg base 1 "scaled_by" ["row", "number"] (spScaled K)) :
    FnOk P w K mg base CX0 2 f fd ["row"] (spScaledR K) := by
  refine F.ok cscaled_row (fun vs H Q E h => ?_) (fun cdv A outer s H vs Q E hr h => ?_)
  · obtain ⟨a, xs, qs, R, n, rb, rfl, _⟩ := h
    rfl
  · obtain ⟨a, xs, qs, R, n, rb, rfl, ha, hx, r0, r1, rb0, r4, hd, sz, hn, hl, q⟩ := h
    refine ⟨_, (pss_one (ps_ret (pe_call Dscaled_by.G (hr.mono (by first | decide | omega)) rfl Dscaled_by.g Dscaled_by.kp Dscaled_by.b .nil pass0 (pa_cons (pv 0) (pa_cons (pe_call Dcommon_bottom.G (hr.mono (by first | decide | omega)) rfl Dcommon_bottom.g Dcommon_bottom.kp Dcommon_bottom.b .nil pass0 (pa_cons (pv 0) pa_nil)) pa_nil))))), ?_⟩
    have lb := Nat.le_of_dvd r0 (cb_dvd hd)
    exact ⟨_, rfl, _, rfl, a, xs, qs, R, rb, rfl, ha, hx, r0, r1, r4, hd, a, xs, qs, cb qs, n, rb, rfl, ha, hx, by omega, rb0, fun q hq => den_cb hq, sz, hn, hl, q⟩
/-- the first row that is not 0 in a column, the one looked at first -/
def spPivot (K : PySem.W.Frag) : Sp := fun vs H Q _ => ∃ (a r : Addr) (xs ys : List V) (t : Nat) (z : Int), vs = [.ref a, .int (t : Nat)] ∧ SqL K H a xs ∧ xs.length ≤ 100 ∧ xs[t]? = some (.ref r) ∧ SqL K H r ys ∧ ys[t]? = some (.int z) ∧ z ≠ 0 ∧ Q (.int (t : Nat)) H
theorem ok_pivot {f : Addr} {fd : FuncData} (F : Fun K "pivot_from" "pivot_from" spivot_from f fd) (M : Mb mg) : FnOk P w K mg base CX0 1 f fd ["rows", "at"] (spPivot K) := by
  refine F.ok cpivot_from (fun vs H Q E h => ?_) (fun cdv A outer s H vs Q E hr h => ?_)
  · obtain ⟨a, r, xs, ys, t, z, rfl, _⟩ := h
    rfl
  · obtain ⟨a, r, xs, ys, t, z, rfl, ha, hl, et, hr', ez, z0, q⟩ := h
    refine ⟨_, (pss_cons (ps_for PassesOwn.never rfl (pi_range2 (by rfl) M.range (pa_cons (pv 1) (pa_cons (pe_callB call_len_seq (by rfl) M.len (by decide +kernel) (pa_cons (pv 0) pa_nil)) pa_nil))) (pg_name (i := 2) cpivot_from.nd rfl (.inl rfl))
 (pss_one (ps_if (pt_cmpR op_ne (pe_ix ix_list (pe_ix ix_list (pv 0) (pv 2) (fun _ _ => rfl)) (pv 1) (fun _ _ => rfl)) pe_int (nomark _))
 (pss_one (ps_ret (pv 2)))
 pss_nil)))
 (pss_one (ps_ret pe_non))), ?_⟩
    have lt : t < xs.length := (List.getElem?_eq_some_iff.mp et).1
    refine ⟨_, rfl, _, rfl, a, xs, rfl, .inl ha, ?_⟩
    refine ⟨(t : Int), (xs.length : Nat), rfl, ⟨by omega, by omega, by omega, by omega⟩, ?_⟩
    have e1 : ((xs.length : Int) - t).toNat = xs.length - t := by omega
    rw [e1]
    refine for_range (lo := t) (n := xs.length - t) (fun i σ H' => i = 0 ∧ σ = [some (.ref a), some (.int (t : Nat)), none] ∧ H' = H) ⟨rfl, rfl, rfl⟩ ?_ (fun σ H' ⟨e, _⟩ => by omega)
    rintro i σ H' hi ⟨rfl, rfl, rfl⟩
    refine ⟨_, rfl, _, rfl, a, xs, (t : Int) + (0 : Nat), _, rfl, rfl, ha, by rw [show (t : Int) + (0 : Nat) = (t : Nat) by omega]; exact atI_nat et, _, rfl, r, ys, (t : Int), _, rfl, rfl, hr', atI_nat ez, ?_⟩
    refine ⟨rfl, _, rfl, ?_⟩
    have e2 : (!decide (V.int z = V.int 0)) = true := by
      rw [dec_int]
      simp [z0]
    refine ifT e2 ⟨_, rfl, ?_⟩
    rw [show (t : Int) + (0 : Nat) = (t : Nat) by omega]
    exact q
/-- rows of whole numbers, lists in a list -/
structure MatZ (H : Hp) (a : Addr) (rs : List Addr) (m n : Nat) (E : Nat → Nat → Int) : Prop where
  eA : H a = some (.lst (rs.map V.ref))
  len : rs.length = m
  row : ∀ (i : Nat) r, rs[i]? = some r → H r = some (.lst (intsV ((List.range n).map (E i))))
theorem MatZ.same {H H' : Hp} {a : Addr} {rs : List Addr} {m n : Nat} {E : Nat → Nat → Int} (h : MatZ H a rs m n E) (s : Same H H') : MatZ H' a rs m n E :=
  ⟨s _ _ h.eA, h.len, fun i r e => s _ _ (h.row i r e)⟩
theorem ints_at {n j : Nat} {f : Nat → Int} (h : j < n) : (intsV ((List.range n).map f))[j]? = some (.int (f j)) := by
  unfold intsV
  rw [List.getElem?_map, List.getElem?_map, List.getElem?_range h]
  rfl
theorem ints_len {n : Nat} {f : Nat → Int} : (intsV ((List.range n).map f)).length = n := by
  unfold intsV
  simp
/-- the row at t has cleared column t from all others -/
def clr (E : Nat → Nat → Int) (t : Nat) (d : Int) : Nat → Nat → Int := fun i j => if i = t then E i j else (E i j * E t t - E i t * E t j) / d
def spCleared (K : PySem.W.Frag) : Sp := fun vs H Q _ => ∃ (a : Addr) (rs : List Addr) (m n t b : Nat) (d : Int) (E : Nat → Nat → Int), vs = [.ref a, .int (t : Nat), .int d] ∧ MatZ H a rs m n E ∧ t < m ∧ t < n ∧ m ≤ 100 ∧ n ≤ 100 ∧ 0 < d ∧ d.natAbs < 2 ^ 9000 ∧ 0 < b ∧ b + b ≤ 900000 ∧ (∀ i j, i < m → j < n → (E i j).natAbs < 2 ^ b) ∧
  ∀ a' rs' H', Same H H' → H a' = none → MatZ H' a' rs' m n (clr E t d) → Q (.ref a') H'
theorem ok_cleared {f : Addr} {fd : FuncData} (F : Fun K "cleared" "cleared" scleared f fd) (M : Mb mg) : FnOk P w K mg base CX0 1 f fd ["rows", "at", "divisor"] (spCleared K) := by
  refine F.ok ccleared (fun vs H Q E h => ?_) (fun cdv A outer s H vs Q X hr h => ?_)
  · obtain ⟨a, rs, m, n, t, b, d, E, rfl, _⟩ := h
    rfl
  · obtain ⟨a, rs, m, n, t, b, d, E, rfl, hm, tm, tn, m1, n1, d0, db, b0, b9, hb, q⟩ := h
    refine ⟨_, (pss_cons (ps_asg (pe_tup (pa_cons (pe_ix ix_list (pv 0) (pv 1) (fun _ _ => rfl)) (pa_cons (pe_lst pa_nil) pa_nil))) (pg_tup rfl (pgs_cons (pg_name (i := 3) ccleared.nd rfl (.inr rfl)) (pgs_cons (pg_name (i := 4) ccleared.nd rfl (.inl rfl)) pgs_nil))))
 (pss_cons (ps_for PassesOwn.never rfl (pi_enum (by rfl) M.enumerate (pa_cons (pv 0) pa_nil)) (pg_tup rfl (pgs_cons (pg_name (i := 5) ccleared.nd rfl (.inl rfl)) (pgs_cons (pg_name (i := 6) ccleared.nd rfl (.inr rfl)) pgs_nil)))
 (pss_one (ps_if (pt_cmpR op_eq (pv 5) (pv 1) (nomark _))
 (pss_one (ps_expr (pe_bm PySem.F.plainAttrs_list PySem.F.slot_list_append PySem.F.type_list_append mt_append (pv 4) (pa_cons (pv 6) pa_nil))))
 (pss_one (ps_expr (pe_bm PySem.F.plainAttrs_list PySem.F.slot_list_append PySem.F.type_list_append mt_append (pv 4) (pa_cons (pe_lc (own := [("number", 7), ("top", 8)]) rfl ccleared.nd (pi_zip (by rfl) M.zip (pa_cons (pv 6) (pa_cons (pv 3) pa_nil))) (blkOk_by (own := [("number", 7), ("top", 8)]) (N := ncleared) (sc := defScope scleared) (by decide +kernel)) (fun _ _ _ _ _ => (pg_tupK (K := K) (n := 2) rfl rfl (pgs_cons (pg_name (i := 7) ccleared.nd rfl (.inl rfl)) (pgs_cons (pg_name (i := 8) ccleared.nd rfl (.inl rfl)) pgs_nil)))) (fun _ _ _ _ _ => pts_nil) (fun _ _ _ _ _ => (pe_op op_fdivW (pe_op op_sub (pe_op op_mulW (pv 7) (pe_ix (ix_listK (K := K) rfl) (pv 3) (pv 1) (fun _ _ => rfl))) (pe_op op_mulW (pe_ix (ix_listK (K := K) rfl) (pv 6) (pv 1) (fun _ _ => rfl)) (pv 8))) (pv 2)))) pa_nil)))))))
 (pss_one (ps_ret (pv 4))))), ?_⟩
    have tl : t < rs.length := by
      rw [hm.len]
      exact tm
    have e1 : rs[t]? = some rs[t] := List.getElem?_eq_getElem tl
    generalize rs[t] = lt at e1
    have eL := hm.row t lt e1
    refine ⟨_, rfl, _, rfl, a, _, (t : Int), .ref lt, rfl, rfl, .of hm.eA, atI_nat (by rw [List.getElem?_map, e1]; rfl), ?_⟩
    refine ⟨sz63 (by show 0 ≤ 1000; decide), fun D nD => ⟨sz63 (by show 2 ≤ 1000; decide), fun T nT => ⟨T, _, rfl, .of upd_same, rfl, _, _, rfl, _, _, rfl, rfl, ?_⟩⟩⟩
    have s1 : Same H (upd H D (.lst [])) := same_new nD
    have eD : (upd H D (.lst [])) D = some (.lst []) := upd_same
    generalize upd H D (.lst []) = H1 at s1 eD nT ⊢
    have s2 : Same H1 (upd H1 T (.tup [.ref lt, .ref D])) := same_new nT
    have eD2 := s2 _ _ eD
    generalize upd H1 T (.tup [.ref lt, .ref D]) = H2 at s2 eD2 ⊢
    have s02 := s1.trans s2
    clear s2 s1 eD nT
    refine ⟨_, rfl, a, _, rfl, .of (s02 _ _ hm.eA), for_it (walk_enum (K := K) (a := a) (xs := rs.map V.ref))
      (fun i σ H' => ∃ ts y5 y6, σ = [some (.ref a), some (.int (t : Nat)), some (.int d), some (.ref lt), some (.ref D), y5, y6, none, none] ∧ Same H H' ∧ H' D = some (.lst (ts.map V.ref)) ∧ ts.length = i ∧
        ∀ (k : Nat) r, ts[k]? = some r → r ≠ D ∧ H' r = some (.lst (intsV ((List.range n).map (clr E t d k)))))
      ⟨[], none, none, rfl, s02, eD2, rfl, fun k r e => by simp at e⟩ (fun i σ H' _ ⟨_, _, _, _, s, _⟩ => .of (s _ _ hm.eA)) ?_ ?_⟩
    · rintro i x σ H3 _ hi ⟨ts, y5, y6, rfl, s3, eD3, tl3, tr3⟩ ⟨T3, x1, y1, rfl, nT3, rfl, ex1, ey1⟩
      obtain rfl := Option.some.inj ex1
      rw [List.length_map, hm.len] at hi
      have e4 : rs[i]? = some (rs[i]'(by rw [hm.len]; exact hi)) := List.getElem?_eq_getElem _
      generalize rs[i]'(by rw [hm.len]; exact hi) = ri at e4
      have ey2 : (rs.map V.ref)[i]? = some y1 := ey1
      rw [List.getElem?_map, e4] at ey2
      obtain rfl := Option.some.inj ey2
      have s4 : Same H3 (upd H3 T3 (.tup [.int (i : Nat), .ref ri])) := same_new nT3
      have eT3 : (upd H3 T3 (.tup [.int (i : Nat), .ref ri])) T3 = some (.tup [.int (i : Nat), .ref ri]) := upd_same
      generalize upd H3 T3 (.tup [.int (i : Nat), .ref ri]) = H4 at s4 eT3 ⊢
      have eD4 := s4 _ _ eD3
      have tr4 : ∀ (k : Nat) r, ts[k]? = some r → r ≠ D ∧ H4 r = some (.lst (intsV ((List.range n).map (clr E t d k)))) := fun k r e => ⟨(tr3 k r e).1, s4 _ _ (tr3 k r e).2⟩
      have s04 := s3.trans s4
      clear tr3 eD3 nT3 s4 s3
      refine ⟨T3, _, rfl, .of eT3, rfl, _, _, rfl, _, _, rfl, rfl, ?_⟩
      refine ⟨_, rfl, _, rfl, rfl, _, rfl, ite2 (fun c => ?_) (fun c => ?_)⟩
      · obtain rfl : i = t := by
          have := V.int.inj (of_decide_eq_true c)
          omega
        obtain rfl : ri = lt := Option.some.inj (e4.symm.trans e1)
        refine ⟨_, rfl, .inl ⟨rfl, _, .of eD4⟩, _, rfl, D, _, .ref ri, rfl, rfl, eD4, sz63' (by rw [List.length_map]; omega), ?_⟩
        refine ⟨ts ++ [ri], _, _, rfl, same_mut s04 nD, by rw [upd_same, List.map_append]; rfl, by rw [List.length_append, tl3]; rfl, fun k r e => ?_⟩
        have ne : ri ≠ D := fun z => by
          rw [z, nD] at eL
          cases eL
        rw [List.getElem?_append] at e
        split at e
        · obtain ⟨g1, g2⟩ := tr4 k r e
          exact ⟨g1, by rw [upd_ne g1]; exact g2⟩
        · have hk : k = i := by
            cases q : k - ts.length with
            | zero => omega
            | succ p =>
              rw [q] at e
              cases e
          subst hk
          rw [tl3, Nat.sub_self] at e
          obtain rfl := Option.some.inj e
          refine ⟨ne, ?_⟩
          rw [upd_ne ne, s04 _ _ eL]
          congr 3
          refine List.map_congr_left fun j _ => ?_
          unfold clr
          rw [if_pos rfl]
      · have eri := s04 _ _ (hm.row i ri e4)
        have elt := s04 _ _ eL
        have ni : i ≠ t := fun z => c (by rw [z]; exact decide_eq_true rfl)
        refine ⟨_, rfl, .inl ⟨rfl, _, .of eD4⟩, _, rfl, _, rfl, ri, lt, _, _, rfl, .of eri, .of elt, fun D5 nD5 => ?_⟩
        refine lc_rel (walk_zip (K := K) (a := ri) (b := lt) (n := n) (by rw [ints_len, ints_len, Nat.min_self])) No (fun H' j y => y = .int ((E i j * E t t - E i t * E t j) / d)) (fun H H' i v k r => r) nD5 (fun _ z => z.elim) (by omega)
          (fun H' k' => ⟨.of (no_same k' _ _ eri), .of (no_same k' _ _ elt)⟩) ?_ ?_
        · rintro j x H6 _ Q' hj k6 nD6 ⟨T6, x1, y1, rfl, nT6, rfl, ex6, ey6⟩ q'
          have ex7 : (intsV ((List.range n).map (E i)))[j]? = some x1 := ex6
          have ey7 : (intsV ((List.range n).map (E t)))[j]? = some y1 := ey6
          rw [ints_at hj] at ex7 ey7
          obtain rfl := Option.some.inj ex7
          obtain rfl := Option.some.inj ey7
          have s6 := (no_same k6).trans (same_new (o := .tup [.int (E i j), .int (E t j)]) nT6)
          have bi := hb i j hi hj
          have bt := hb t j tm hj
          have bit := hb i t hi tn
          have btt := hb t t tm tn
          refine ⟨T6, _, rfl, .of upd_same, rfl, _, _, rfl, _, _, rfl, rfl, rfl, ?_⟩
          refine ⟨_, rfl, _, rfl, _, rfl, lt, _, (t : Int), _, rfl, rfl, .of (s6 _ _ elt), atI_nat (ints_at tn), _, _, rfl, rfl, mulWL bi btt b0 b0 b9, ?_⟩
          refine ⟨_, rfl, _, rfl, ri, _, (t : Int), _, rfl, rfl, .of (s6 _ _ eri), atI_nat (ints_at tn), _, rfl, _, _, rfl, rfl, mulWL bit bt b0 b0 b9, ?_⟩
          refine ⟨_, _, rfl, rfl, _, rfl, _, _, rfl, rfl, wide_div d0 db (by decide) (by decide), ?_⟩
          exact q' _ _ (Kp.new nT6) rfl
        · intro H6 acc k6 eD6 hla ha6
          have s6 := no_same k6
          have acc_eq : acc = intsV ((List.range n).map (clr E t d i)) := by
            refine List.ext_getElem? fun j => ?_
            by_cases cj : j < n
            · rw [List.getElem?_eq_getElem (by omega), ha6 j _ (List.getElem?_eq_getElem (by omega)), ints_at cj]
              unfold clr
              rw [if_neg ni]
            · rw [List.getElem?_eq_none (by omega), List.getElem?_eq_none (by rw [ints_len]; omega)]
          rw [acc_eq] at eD6
          have eD7 := s6 _ _ eD4
          have ne5 : D5 ≠ D := fun z => by
            rw [z] at nD5
            rw [nD5] at eD4
            cases eD4
          refine ⟨D, _, .ref D5, rfl, rfl, eD7, sz63' (by rw [List.length_map]; omega), ?_⟩
          refine ⟨ts ++ [D5], _, _, rfl, same_mut (s04.trans s6) nD, by rw [upd_same, List.map_append]; rfl, by rw [List.length_append, tl3]; rfl, fun k r e => ?_⟩
          rw [List.getElem?_append] at e
          split at e
          · obtain ⟨g1, g2⟩ := tr4 k r e
            exact ⟨g1, by rw [upd_ne g1]; exact s6 _ _ g2⟩
          · have hk : k = i := by
              cases q : k - ts.length with
              | zero => omega
              | succ p =>
                rw [q] at e
                cases e
            subst hk
            rw [tl3, Nat.sub_self] at e
            obtain rfl := Option.some.inj e
            exact ⟨ne5, by rw [upd_ne ne5]; exact eD6⟩
    · rintro σ H3 ⟨ts, y5, y6, rfl, s3, eD3, tl3, tr3⟩
      rw [List.length_map, hm.len] at tl3
      exact ⟨_, rfl, q D ts H3 s3 nD ⟨eD3, tl3, fun i r e => (tr3 i r e).2⟩⟩
/-- how long numbers get -/
def bR (b : Nat) : Nat → Nat
  | 0 => b
  | k + 1 => 2 * bR b k + 1
theorem bR_le5 {b t : Nat} (h : b ≤ 1000) (ht : t ≤ 5) : bR b t + bR b t ≤ 900000 := by
  have h6 : ∀ t, bR b t + 1 = 2 ^ t * (b + 1) := fun t => by
    induction t with
    | zero =>
      rw [Nat.pow_zero, Nat.one_mul]
      rfl
    | succ k ih =>
      rw [Nat.pow_succ, bR]
      have : 2 ^ k * 2 * (b + 1) = 2 * (2 ^ k * (b + 1)) := by rw [Nat.mul_right_comm, Nat.mul_comm]
      omega
  have h7 : 2 ^ t * (b + 1) ≤ 2 ^ 5 * 1001 := Nat.mul_le_mul (Nat.pow_le_pow_right (by decide) ht) (by omega)
  have := h6 t
  omega
theorem bR_pos {b : Nat} (h : 0 < b) : ∀ t, 0 < bR b t
  | 0 => h
  | k + 1 => by
    rw [bR]
    omega
theorem clr_lt {b t m n : Nat} {d : Int} {E : Nat → Nat → Int} (d0 : 0 < d) (tm : t < m) (tn : t < n) (h : ∀ i j, i < m → j < n → (E i j).natAbs < 2 ^ b) : ∀ i j, i < m → j < n → (clr E t d i j).natAbs < 2 ^ (2 * b + 1) := by
  intro i j hi hj
  unfold clr
  split
  · exact Nat.lt_of_lt_of_le (h i j hi hj) (Nat.pow_le_pow_right (by decide) (by omega))
  · have h1 := Bq.sub_lt (Bq.mul_lt (h i j hi hj) (h t t tm tn)) (Bq.mul_lt (h i t hi tn) (h t j tm hj))
    rw [show b + b + 1 = 2 * b + 1 by omega] at h1
    exact Nat.lt_of_le_of_lt (Int.natAbs_ediv_le_natAbs _ _) h1
theorem clr_bb {n t : Nat} {A E : Nat → Nat → Int} (h : ∀ i j, t ≤ i → t ≤ j → i < n → j < n → E i j = bb A t (i - t) (j - t)) {i j : Nat} (hi : t + 1 ≤ i) (hj : t + 1 ≤ j) (i1 : i < n) (j1 : j < n) :
    clr E t (bq A t) i j = bb A (t + 1) (i - (t + 1)) (j - (t + 1)) := by
  unfold clr
  rw [if_neg (by omega), bb_succ]
  unfold Bw.chio
  rw [h i j (by omega) (by omega) i1 j1, h t t (by omega) (by omega) (by omega) (by omega), h i t (by omega) (by omega) i1 (by omega), h t j (by omega) (by omega) (by omega) j1, Nat.sub_self,
    show i - (t + 1) + 1 = i - t by omega, show j - (t + 1) + 1 = j - t by omega, Int.mul_comm (bb A t (i - t) (j - t))]
/-- the product of a row -/
def prQ : List Rat → Rat
  | [] => 1
  | q :: r => q * prQ r
theorem prQ_app : ∀ l m : List Rat, prQ (l ++ m) = prQ l * prQ m
  | [], m => by
    rw [List.nil_append, prQ]
    grind
  | a :: l, m => by
    rw [List.cons_append, prQ, prQ_app l m, prQ]
    grind
theorem prQ_take {qs : List Rat} {i : Nat} {q : Rat} (h : qs[i]? = some q) : prQ (qs.take (i + 1)) = prQ (qs.take i) * q := by
  rw [List.take_succ, h, prQ_app]
  simp only [Option.toList, prQ]
  grind
theorem sN_const (c : Nat) : ∀ n, sN n (fun _ => c) = n * c
  | 0 => by simp [sN]
  | n + 1 => by rw [sN, sN_const c n, Nat.succ_mul]
theorem sN_le_of {f : Nat → Nat} {m : Nat} : ∀ {n : Nat}, m ≤ n → sN m f ≤ sN n f
  | 0, h => by
    have : m = 0 := by omega
    rw [this]
    exact Nat.le_refl _
  | n + 1, h => by
    by_cases c : m = n + 1
    · rw [c]
      exact Nat.le_refl _
    · have := sN_le_of (f := f) (m := m) (n := n) (by omega)
      rw [sN]
      omega
/-- rows of fractions, lists in a list -/
structure MatQ (K : PySem.W.Frag) (H : Hp) (a : Addr) (rs : List Addr) (m n : Nat) (F : Nat → Nat → Rat) : Prop where
  eA : H a = some (.lst (rs.map V.ref))
  len : rs.length = m
  row : ∀ (i : Nat) r, rs[i]? = some r → ∃ xs, H r = some (.lst xs) ∧ FrRow K H xs ((List.range n).map (F i))
theorem MatQ.same {H H' : Hp} {a : Addr} {rs : List Addr} {m n : Nat} {F : Nat → Nat → Rat} (h : MatQ K H a rs m n F) (s : Same H H') : MatQ K H' a rs m n F :=
  ⟨s _ _ h.eA, h.len, fun i r e => by
    obtain ⟨xs, e1, e2⟩ := h.row i r e
    exact ⟨xs, s _ _ e1, e2.same s⟩⟩
theorem refs_of {acc : List V} : ∀ {P : Nat → Addr → Prop}, (∀ (i : Nat) v, acc[i]? = some v → ∃ p, v = .ref p ∧ P i p) → ∃ rs : List Addr, acc = rs.map V.ref ∧ ∀ (i : Nat) r, rs[i]? = some r → P i r := by
  induction acc with
  | nil => exact fun _ => ⟨[], rfl, fun i r e => by simp at e⟩
  | cons v acc ih =>
    intro P h
    obtain ⟨p, rfl, hp⟩ := h 0 _ rfl
    obtain ⟨rs, e1, h1⟩ := ih (P := fun i => P (i + 1)) fun i v e => h (i + 1) v (by simpa using e)
    refine ⟨p :: rs, by rw [e1]; rfl, fun i r e => ?_⟩
    cases i with
    | zero =>
      obtain rfl := Option.some.inj e
      exact hp
    | succ i => exact h1 i r (by simpa using e)
/-- the least number that makes row i whole -/
def cbR (n : Nat) (F : Nat → Nat → Rat) (i : Nat) : Nat := cb ((List.range n).map (F i))
/-- the rows, made whole -/
def upM (n : Nat) (F : Nat → Nat → Rat) : Nat → Nat → Int := fun i j => upZ (cbR n F i) (F i j)
/-- the determinant, and the rows' numbers undone -/
def detR (n : Nat) (F : Nat → Nat → Rat) : List Rat := ((det n (upM n F) : Int) : Rat) :: (List.range n).map fun i => 1 / (cbR n F i : Rat)
theorem inv_fr {c : Nat} (h : 0 < c) : (1 / (c : Rat)).num = 1 ∧ (1 / (c : Rat)).den = c := by
  obtain ⟨q, h1, h2⟩ := (Bq.low_iff (a := 1) (b := (c : Int)) (by omega)).mp (by
    show Nat.gcd 1 _ = 1
    exact Nat.gcd_one_left _)
  have e : q = 1 / (c : Rat) := by
    have h3 := Bq.num_over q
    rw [Rat.divInt_eq_div, ← h1, ← h2] at h3
    rw [← h3]
    rfl
  rw [← e]
  exact ⟨h1.symm, by omega⟩
theorem upZ_lt {L s rb : Nat} {q : Rat} (hL : L < 2 ^ rb) (hq : Bq.Sz s q) : (upZ L q).natAbs < 2 ^ (s + rb) := by
  unfold upZ
  refine Bq.mul_lt hq.1 ?_
  have h1 : (0 : Int) ≤ (L : Int) / (q.den : Int) := Int.ediv_nonneg (by omega) (by omega)
  have h2 : (L : Int) / (q.den : Int) ≤ L := Int.ediv_le_self _ (by omega)
  omega
end
end Kx
set_option exponentiation.threshold 4000
/-! The program's shares. -/
namespace Kx
open PySem PySem.Spec PyProof.Rows L2 Bw
abbrev sminus : Stmt := topS 14
abbrev nminus : List Str := ["one", "other"]
theorem cminus : FnScope nminus ["one", "other"] (defScope sminus) :=
  ⟨rfl, rfl, rfl, by decide +kernel, rfl, by decide +kernel, by decide +kernel⟩

abbrev stree_square : Stmt := topS 30
abbrev ntree_square : List Str := ["table", "root", "others", "square", "place", "here", "in_all", "there"]
theorem ctree_square : FnScope ntree_square ["table", "root"] (defScope stree_square) :=
  ⟨rfl, rfl, rfl, by decide +kernel, rfl, by decide +kernel, by decide +kernel⟩

theorem others_eq (root : Nat) : ∀ n, (List.range n).filter (fun i => !decide (i = root)) = if root < n then (List.range (n - 1)).map (sk root) else List.range n
  | 0 => rfl
  | n + 1 => by
    rw [List.range_succ, List.filter_append, others_eq root n]
    by_cases c : root < n
    · rw [if_pos c, if_pos (by omega)]
      have e : (List.filter (fun i => !decide (i = root)) [n]) = [n] := by
        simp
        omega
      obtain ⟨k, rfl⟩ : ∃ k, n = k + 1 := ⟨n - 1, by omega⟩
      rw [e, Nat.add_sub_cancel, Nat.add_sub_cancel, List.range_succ, List.map_append]
      congr 1
      show [k + 1] = [sk root k]
      unfold sk
      rw [if_neg (by omega)]
    · rw [if_neg c]
      by_cases d : root = n
      · subst d
        rw [if_pos (by omega), Nat.add_sub_cancel]
        have e : (List.filter (fun i => !decide (i = root)) [root]) = [] := by simp
        rw [e, List.append_nil]
        have : (List.range root).map (sk root) = (List.range root).map id := List.map_congr_left fun r hr => by
          unfold sk
          rw [if_pos (List.mem_range.mp hr)]
          rfl
        rw [this, List.map_id]
      · rw [if_neg (by omega)]
        congr 1
        simp
        omega
theorem row_at {W : Addr → Prop} {H : Hp} {xs : List V} {n : Nat} {f : Nat → Rat} (h : DqAll W H xs (((List.range n).map f).map frD)) {i : Nat} {v : V} (e : xs[i]? = some v) : i < n ∧ Dq W H v (frD (f i)) := by
  have hl := h.length
  rw [List.length_map, List.length_map, List.length_range] at hl
  have hi : i < n := by
    have := (List.getElem?_eq_some_iff.mp e).1
    omega
  obtain ⟨d, hd, dv⟩ := h.at e
  rw [List.getElem?_map, List.getElem?_map, List.getElem?_range hi] at hd
  rw [← Option.some.inj hd] at dv
  exact ⟨hi, dv⟩
theorem tab_at {W : Addr → Prop} {H : Hp} {xs : List V} {n : Nat} {f : Nat → List Rat} (h : DqAll W H xs (((List.range n).map f).map rowD)) {i : Nat} {v : V} (e : xs[i]? = some v) : i < n ∧ Dq W H v (rowD (f i)) := by
  have hl := h.length
  rw [List.length_map, List.length_map, List.length_range] at hl
  have hi : i < n := by
    have := (List.getElem?_eq_some_iff.mp e).1
    omega
  obtain ⟨d, hd, dv⟩ := h.at e
  rw [List.getElem?_map, List.getElem?_map, List.getElem?_range hi] at hd
  rw [← Option.some.inj hd] at dv
  exact ⟨hi, dv⟩
section
variable {P : Program} {w : World} {K : PySem.W.Frag} {mg : Str → Option Value} {base : Heap}
theorem sqT_mut {K : PySem.W.Frag} {H : Hp} {a S : Addr} {xs l : List V} {o' : HO} (h : SqT K H a xs) (hS : H S = some (.lst l)) : SqT K (upd H S o') a xs := by
  rcases h with (e | ⟨o, e⟩) | e
  · have ne : a ≠ S := fun z => by
      rw [z, hS] at e
      cases e
    exact .inl (.inl (by rw [upd_ne ne]; exact e))
  · have ne : a ≠ S := fun z => by
      rw [z, hS] at e
      cases e
    exact .inl (.inr ⟨o, by rw [upd_ne ne]; exact e⟩)
  · exact .inr e
/-- the difference of two fractions -/
def spMinus (K : PySem.W.Frag) : Sp := fun vs H Q _ => ∃ (v u : V) (p q : Rat) (m n : Nat), vs = [v, u] ∧ FrR K H v p ∧ FrR K H u q ∧ Bq.Sz m p ∧ Bq.Sz n q ∧ m + n ≤ 8999 ∧
  ∀ a, H a = none → Q (.ref a) (upd H a (.tup [.int (p - q).num, .int (p - q).den]))
theorem ok_minus {f : Addr} {fd : FuncData} (F : Fun K "minus" "minus" sminus f fd) (M : Mb mg) (Dlowest : Df P w K mg base 1 "lowest" ["top", "bottom"] spLowest) : FnOk P w K mg base CX0 2 f fd ["one", "other"] (spMinus K) := by
  refine F.ok cminus (fun vs H Q E h => ?_) (fun cdv A outer s H vs Q E hr h => ?_)
  · obtain ⟨v, u, p, q, m, n, rfl, _⟩ := h
    rfl
  · obtain ⟨v, u, p, r, m, n, rfl, ⟨a, rfl, ha⟩, ⟨b, rfl, hb⟩, sp, sr, hmn, q⟩ := h
    refine ⟨_, (pss_one (ps_ret (pe_call Dlowest.G (hr.mono (by first | decide | omega)) rfl Dlowest.g Dlowest.kp Dlowest.b .nil pass0 (pa_cons (pe_op op_sub (pe_op op_mulW (pe_ix ix_tup (pv 0) pe_int (fun _ _ => rfl)) (pe_ix ix_tup (pv 1) pe_int (fun _ _ => rfl))) (pe_op op_mulW (pe_ix ix_tup (pv 1) pe_int (fun _ _ => rfl)) (pe_ix ix_tup (pv 0) pe_int (fun _ _ => rfl)))) (pa_cons (pe_op op_mulW (pe_ix ix_tup (pv 0) pe_int (fun _ _ => rfl)) (pe_ix ix_tup (pv 1) pe_int (fun _ _ => rfl))) pa_nil))))), ?_⟩
    have m0 := sz_pos sp
    have n0 := sz_pos sr
    refine ⟨_, rfl, a, _, 0, _, rfl, rfl, ha, rfl, _, rfl, b, _, 1, _, rfl, rfl, hb, rfl, _, _, rfl, rfl, mulW sp.1 (Bq.den_abs sr) m0 n0 (by omega), ?_⟩
    refine ⟨_, rfl, b, _, 0, _, rfl, rfl, hb, rfl, _, rfl, a, _, 1, _, rfl, rfl, ha, rfl, _, _, rfl, rfl, mulW sr.1 (Bq.den_abs sp) n0 m0 (by omega), ?_⟩
    refine ⟨_, _, rfl, rfl, ?_⟩
    refine ⟨_, rfl, a, _, 1, _, rfl, rfl, ha, rfl, _, rfl, b, _, 1, _, rfl, rfl, hb, rfl, _, _, rfl, rfl, mulW (Bq.den_abs sp) (Bq.den_abs sr) m0 n0 (by omega), ?_⟩
    refine ⟨_, _, m + n, rfl, Bq.dens_pos p r, Bq.dens sp sr, by omega, fun x hx => ?_⟩
    have q' := q x hx
    rw [← Bq.q_sub] at q'
    exact q'
/-- a table by a function -/
def tabF (n : Nat) (f : Nat → Nat → Rat) : List (List Rat) := (List.range n).map fun i => (List.range n).map fun j => f i j
/-- what goes out less the table, the root's row and column left out -/
def sqF (f : Nat → Nat → Rat) (n root : Nat) : Nat → Nat → Rat := fun r c => (if c = r then Bq.sumQ ((List.range (n + 1)).map (f (sk root r))) else 0) - f (sk root r) (sk root c)
def spTreeSq (K : PySem.W.Frag) : Sp := fun vs H Q _ => ∃ (W : Addr → Prop) (v : V) (n s root : Nat) (f : Nat → Nat → Rat), vs = [v, .int (root : Nat)] ∧ Dq W H v (tabD (tabF (n + 1) f)) ∧ root < n + 1 ∧ n + 1 ≤ 6 ∧ s ≤ 1000 ∧ (∀ i j, i < n + 1 → j < n + 1 → Bq.Sz s (f i j)) ∧
  ∀ a' rs' H', Same H H' → MatQ K H' a' rs' n n (sqF f n root) → Q (.ref a') H'
theorem ok_treesq {f : Addr} {fd : FuncData} (F : Fun K "tree_square" "tree_square" stree_square f fd) (M : Mb mg) (Z : Mp K mg) (Dminus : Df P w K mg base 2 "minus" ["one", "other"] (spMinus K)) (Dtotal : Df P w K mg base 3 "total" ["fractions"] (spTotal K)) :
    FnOk P w K mg base CX0 4 f fd ["table", "root"] (spTreeSq K) := by
  refine F.ok ctree_square (fun vs H Q E h => ?_) (fun cdv A outer s H vs Q E hr h => ?_)
  · obtain ⟨W, v, n, s, root, g, rfl, _⟩ := h
    rfl
  · obtain ⟨W, v, n, sb, root, g, rfl, hd, hroot, n6, s9, sz, q⟩ := h
    refine ⟨_, (pss_cons (ps_par (i := 2) (j := 3) (by rfl) ctree_square.nd rfl rfl (by decide) rfl rfl (pa_cons (pe_lc (own := [("place", 4)]) rfl ctree_square.nd (pi_range1 (by rfl) M.range (pa_cons (pe_callB call_len_seq (by rfl) M.len (by decide +kernel) (pa_cons (pv 0) pa_nil)) pa_nil)) (blkOk_by (own := [("place", 4)]) (N := ntree_square) (sc := defScope stree_square) (by decide +kernel)) (fun _ _ _ _ _ => (pg_name (i := 4) ctree_square.nd rfl (.inl rfl))) (fun _ _ _ _ _ => (pts_one (pt_cmpR op_ne (pv 4) (pv 1) (nomark _)))) (fun _ _ _ _ _ => (pv 4))) (pa_cons (pe_lst pa_nil) pa_nil)) (by rfl))
 (pss_cons (ps_for PassesOwn.never rfl (pi_list (pv 2)) (pg_name (i := 5) ctree_square.nd rfl (.inr rfl))
 (pss_cons (ps_set (i := 6) ctree_square.nd rfl (.inr rfl) (pe_call Dtotal.G (hr.mono (by first | decide | omega)) rfl Dtotal.g Dtotal.kp Dtotal.b .nil pass0 (pa_cons (pe_ix ix_tup (pv 0) (pv 5) (fun _ _ => rfl)) pa_nil)))
 (pss_one (ps_expr (pe_bm PySem.F.plainAttrs_list PySem.F.slot_list_append PySem.F.type_list_append mt_append (pv 3) (pa_cons (pe_lc (own := [("there", 7)]) rfl ctree_square.nd (pi_list (pv 2)) (blkOk_by (own := [("there", 7)]) (N := ntree_square) (sc := defScope stree_square) (by decide +kernel)) (fun _ _ _ _ _ => (pg_name (i := 7) ctree_square.nd rfl (.inl rfl))) (fun _ _ _ _ _ => pts_nil) (fun _ _ _ _ _ => (pe_call Dminus.G (hr.mono (by first | decide | omega)) rfl Dminus.g Dminus.kp Dminus.b .nil pass0 (pa_cons (pe_ifExp (pt_cmpR op_eq (pv 7) (pv 5) (nomark _)) (pv 6) (pe_glob (v := .ref Z.nilA) rfl Z.nil rfl)) (pa_cons (pe_ix (ix_tupK (K := K) rfl) (pe_ix (ix_tupK (K := K) rfl) (pv 0) (pv 5) (fun _ _ => rfl)) (pv 7) (fun _ _ => rfl)) pa_nil))))) pa_nil))))))
 (pss_one (ps_ret (pv 3))))), ?_⟩
    obtain ⟨a, xs, rfl, na, ea, ex⟩ := hd.tupI
    have xl : xs.length = n + 1 := by
      have := ex.length
      unfold tabF at this
      simpa using this
    refine ⟨_, rfl, a, xs, rfl, .inr (.of ea), _, rfl, by omega, by omega, fun O nO => ?_⟩
    have el : ((xs.length : Nat) : Int).toNat = n + 1 := by omega
    rw [el]
    refine lc_filtR (n := n + 1) (fun t => !decide (t = root)) nO (by omega) (fun x _ => rfl) (fun x => rfl) ?_ ?_
    · rintro i H2 T hi s2 nD2 q2
      refine ⟨_, rfl, _, rfl, rfl, _, rfl, ?_⟩
      have e : (!decide (V.int ((i : Nat) : Int) = V.int ((root : Nat) : Int))) = !decide (i = root) := by
        congr 1
        rw [decide_eq_decide]
        constructor
        · intro z
          have := V.int.inj z
          omega
        · intro z
          rw [z]
      rw [e]
      exact q2 H2 (.refl _)
    · rintro H2 s2 eO
      rw [others_eq, if_pos hroot, Nat.add_sub_cancel] at eO
      refine ⟨sz63 (by show 0 ≤ 1000; decide), fun S nS => ⟨_, _, rfl, ?_⟩⟩
      have s3 : Same H2 (upd H2 S (.lst [])) := same_new nS
      have eS : (upd H2 S (.lst [])) S = some (.lst []) := upd_same
      generalize upd H2 S (.lst []) = H3 at s3 eS ⊢
      have ol : (((List.range n).map (sk root)).map fun i : Nat => V.int i).length = n := by simp
      have oat : ∀ i, i < n → (((List.range n).map (sk root)).map fun i : Nat => V.int i)[i]? = some (.int (sk root i : Nat)) := fun i hi => by
        rw [List.getElem?_map, List.getElem?_map, List.getElem?_range hi]
        rfl
      generalize ((List.range n).map (sk root)).map (fun i : Nat => V.int i) = os at eO ol oat
      refine ⟨_, rfl, O, rfl, ⟨_, .of (s3 _ _ eO)⟩, for_list (K := K) (a := O) (xs := os)
        (fun i σ H' => ∃ ts y5 y6, σ = [some (.ref a), some (.int (root : Nat)), some (.ref O), some (.ref S), none, y5, y6, none] ∧ Same H2 H' ∧ H' S = some (.lst (ts.map V.ref)) ∧ ts.length = i ∧
          ∀ (k : Nat) r, ts[k]? = some r → r ≠ S ∧ ∃ xs, H' r = some (.lst xs) ∧ FrRow K H' xs ((List.range n).map (sqF g n root k)))
        ⟨[], none, none, rfl, s3, eS, rfl, fun k r e => by simp at e⟩ (fun i σ H' _ ⟨_, _, _, _, s, _⟩ => .of (s _ _ eO)) ?_ ?_⟩
      · rintro i x σ H4 hi ⟨ts, y5, y6, rfl, s4, eS4, tl4, tr4⟩
        have il : i < n := by
          have := (List.getElem?_eq_some_iff.mp hi).1
          omega
        rw [oat i il] at hi
        obtain rfl := Option.some.inj hi
        have s24 := s2.trans s4
        have skl := sk_lt (i := root) il
        have e1 : xs[sk root i]? = some (xs[sk root i]'(by omega)) := List.getElem?_eq_getElem (by omega)
        obtain ⟨_, dy⟩ := tab_at ex e1
        obtain ⟨r, ys, e2, nb, eb, er⟩ := dy.tupI
        rw [e2] at e1
        have fr := dq_row (K := K) er
        refine ⟨_, rfl, _, rfl, a, xs, (sk root i : Nat), _, rfl, rfl, .of (s24 _ _ ea), atI_nat e1, r, ys, _, sb, rfl, .of (s24 _ _ eb), fr.same s24, ?_, ?_, fun v H5 s5 hv _ => ?_⟩
        · intro q0 hq0
          obtain ⟨j, hj, rfl⟩ := List.mem_map.mp hq0
          exact sz _ _ skl (List.mem_range.mp hj)
        · rw [List.length_map, List.length_range]
          have : (n + 1) * (sb + 1) ≤ 6 * 1001 := Nat.mul_le_mul n6 (by omega)
          omega
        have eS5 := s5 _ _ eS4
        have s25 := s24.trans s5
        refine ⟨_, rfl, .inl ⟨rfl, _, .of eS5⟩, _, rfl, O, rfl, ⟨os, .of (s5 _ _ (s4 _ _ eO))⟩, fun D nD => ?_⟩
        refine lc_rel (walk_list (K := K) (a := O) (xs := os)) No (fun H' j y => ∃ p, y = .ref p ∧ p ≠ D ∧ H' p = some (.tup [.int (sqF g n root i j).num, .int (sqF g n root i j).den])) (fun H H' i v k r => ?_) nD (fun _ z => z.elim) (by omega)
          (fun H' k' => .of (no_same k' _ _ (s5 _ _ (s4 _ _ eO)))) ?_ ?_
        · obtain ⟨p, rfl, ne, hp⟩ := r
          exact ⟨p, rfl, ne, k _ _ (fun z => z.elim id ne) hp⟩
        · rintro j x H6 _ Q' hj k6 nD6 ⟨rfl, hx6⟩ q'
          rw [ol] at hj
          rw [oat j hj] at hx6
          obtain rfl := Option.some.inj hx6
          have s6 := no_same k6
          have s26 := s25.trans s6
          have e3 : ys[sk root j]? = some (ys[sk root j]'(by
            have := er.length
            simp at this
            have := sk_lt (i := root) hj
            omega)) := List.getElem?_eq_getElem _
          obtain ⟨_, dv⟩ := row_at er e3
          obtain ⟨p, e4, _, ep⟩ := dv.frI
          rw [e4] at e3
          have ssum : Bq.Sz (1 + (n + 1) * (sb + 1)) (Bq.sumQ ((List.range (n + 1)).map (g (sk root i)))) := by
            have := sz_take (n := sb) (qs := (List.range (n + 1)).map (g (sk root i))) (fun q0 hq0 => by
              obtain ⟨j, hj, rfl⟩ := List.mem_map.mp hq0
              exact sz _ _ skl (List.mem_range.mp hj)) (n + 1) (by simp)
            rw [List.take_of_length_le (by simp)] at this
            exact this
          have bnd : 1 + (n + 1) * (sb + 1) + sb ≤ 8999 := by
            have : (n + 1) * (sb + 1) ≤ 6 * 1001 := Nat.mul_le_mul n6 (by omega)
            omega
          refine ⟨rfl, _, rfl, _, rfl, rfl, _, rfl, ite2 (fun c => ?_) (fun c => ?_)⟩
          · have eji : j = i := by
              have h1 := V.int.inj (of_decide_eq_true c)
              exact sk_inj (i := root) (by omega)
            refine ⟨_, rfl, _, rfl, _, rfl, a, xs, (sk root i : Nat), _, rfl, rfl, .of (s26 _ _ ea), atI_nat e1, _, rfl, r, ys, (sk root j : Nat), _, rfl, rfl, .of (s26 _ _ eb), atI_nat e3, v, .ref p, _, _, _, sb, rfl, hv.same s6, ⟨p, rfl, .of (s26 _ _ ep)⟩, ssum, sz _ _ skl (sk_lt hj), bnd, fun p9 np9 => ?_⟩
            refine q' _ _ (Kp.new np9) ⟨p9, rfl, fun z => nD6 (by rw [← z]; exact np9), ?_⟩
            unfold sqF
            rw [if_pos eji]
            exact upd_same
          · have eji : ¬ j = i := fun z => c (by rw [z]; exact decide_eq_true rfl)
            refine ⟨_, rfl, _, rfl, a, xs, (sk root i : Nat), _, rfl, rfl, .of (s26 _ _ ea), atI_nat e1, _, rfl, r, ys, (sk root j : Nat), _, rfl, rfl, .of (s26 _ _ eb), atI_nat e3, .ref Z.nilA, .ref p, 0, _, 1, sb, rfl, ⟨_, rfl, Z.nilT _⟩, ⟨p, rfl, .of (s26 _ _ ep)⟩, Bq.Sz.zero, sz _ _ skl (sk_lt hj), by omega, fun p9 np9 => ?_⟩
            refine q' _ _ (Kp.new np9) ⟨p9, rfl, fun z => nD6 (by rw [← z]; exact np9), ?_⟩
            unfold sqF
            rw [if_neg eji]
            exact upd_same
        · rintro H6 acc k6 eD6 hla6 ha6
          have s6 := no_same k6
          rw [ol] at hla6
          have eS6 := s6 _ _ eS5
          have nDS : D ≠ S := fun z => by
            rw [z] at nD
            rw [nD] at eS5
            cases eS5
          have fr6 : FrRow K H6 acc ((List.range n).map (sqF g n root i)) := ⟨by rw [hla6]; simp, fun j v0 q0 g1 g2 => by
            obtain ⟨p, rfl, _, hp⟩ := ha6 j v0 g1
            have hj : j < n := by
              have := (List.getElem?_eq_some_iff.mp g1).1
              omega
            rw [List.getElem?_map, List.getElem?_range hj] at g2
            obtain rfl := Option.some.inj g2
            exact ⟨p, rfl, .of hp⟩⟩
          have fm : ∀ {xs : List V} {qs : List Rat}, FrRow K H6 xs qs → FrRow K (upd H6 S (.lst (ts.map V.ref ++ [.ref D]))) xs qs := fun {xs qs} h => ⟨h.1, fun j v0 q0 g1 g2 => by
            obtain ⟨p, rfl, hp⟩ := h.2 j v0 q0 g1 g2
            exact ⟨p, rfl, sqT_mut hp eS6⟩⟩
          refine ⟨S, _, .ref D, rfl, rfl, eS6, sz63' (by rw [List.length_map]; omega), ?_⟩
          refine ⟨ts ++ [D], _, _, rfl, same_mut ((s4.trans s5).trans s6) nS, by rw [upd_same, List.map_append]; rfl, by rw [List.length_append, tl4]; rfl, fun k r0 e => ?_⟩
          rw [List.getElem?_append] at e
          split at e
          · obtain ⟨g1, xs1, g2, g3⟩ := tr4 k r0 e
            exact ⟨g1, xs1, by rw [upd_ne g1]; exact s6 _ _ (s5 _ _ g2), fm (g3.same (s5.trans s6))⟩
          · have hk : k = i := by
              cases q : k - ts.length with
              | zero => omega
              | succ p =>
                rw [q] at e
                cases e
            subst hk
            rw [tl4, Nat.sub_self] at e
            obtain rfl := Option.some.inj e
            exact ⟨nDS, acc, by rw [upd_ne nDS]; exact eD6, fm fr6⟩
      · rintro σ H4 ⟨ts, y5, y6, rfl, s4, eS4, tl4, tr4⟩
        rw [ol] at tl4
        exact ⟨_, rfl, q S ts H4 (s2.trans s4) ⟨eS4, tl4, fun i r e => (tr4 i r e).2⟩⟩
end
end Kx
set_option exponentiation.threshold 4000
/-! The law's drawn weights, and their walk. -/
namespace Kx
open PySem PySem.Spec PyProof.Rows L2 Bw
abbrev s_law_weight : Stmt := topS 52
abbrev n_law_weight : List Str := ["well", "way", "below"]
theorem c_law_weight : FnScope n_law_weight ["well"] (defScope s_law_weight) :=
  ⟨rfl, rfl, rfl, by decide +kernel, rfl, by decide +kernel, by decide +kernel⟩

abbrev s_law_bonds : Stmt := topS 53
abbrev n_law_bonds : List Str := ["well", "many", "left", "known", "rows", "turn", "ties", "there", "here", "row"]
theorem c_law_bonds : FnScope n_law_bonds ["well", "many"] (defScope s_law_bonds) :=
  ⟨rfl, rfl, rfl, by decide +kernel, rfl, by decide +kernel, by decide +kernel⟩

abbrev s_law_walk_by : Stmt := topS 54
abbrev n_law_walk_by : List Str := ["bonds", "row"]
theorem c_law_walk_by : FnScope n_law_walk_by ["bonds"] (defScope s_law_walk_by) :=
  ⟨rfl, rfl, rfl, by decide +kernel, rfl, by decide +kernel, by decide +kernel⟩

section
variable {P : Program} {w : World} {K : PySem.W.Frag} {mg : Str → Option Value} {base : Heap}
/-- each of a row, a tuple, over the sum of all -/
def spOverSumT (K : PySem.W.Frag) : Sp := fun vs H Q _ => ∃ (a : Addr) (xs : List V) (qs : List Rat) (n : Nat), vs = [.ref a] ∧ SqT K H a xs ∧ FrRow K H xs qs ∧ (∀ q ∈ qs, Bq.Sz n q) ∧ qs.length ≤ 100 ∧ 1 + qs.length * (n + 1) + n ≤ 9000 ∧ 0 < Bq.sumQ qs ∧
  ∀ v H', Same H H' → Dq (Old H) H' v (rowD (qs.map fun q => q / Bq.sumQ qs)) → Q v H'
theorem ok_loversumT {f : Addr} {fd : FuncData} (F : Fun K "_law_over_sum" "_law_over_sum" s_law_over_sum f fd) (M : Mb mg) (Dlaw_over : Df P w K mg base 2 "_law_over" ["here", "there"] (spOver K))
    (DtotT : Df P w K mg base 3 "_law_total" ["parts"] (spSum K (SqT K))) : FnOk P w K mg base CX0 4 f fd ["row"] (spOverSumT K) := by
  refine F.ok c_law_over_sum (fun vs H Q E h => ?_) (fun cdv A outer s H vs Q E hr h => ?_)
  · obtain ⟨a, xs, qs, n, rfl, _⟩ := h
    rfl
  · obtain ⟨a, xs, qs, n, rfl, ha, hx, hs, hl, hn, h0, q⟩ := h
    refine ⟨_, (pss_cons (ps_set (i := 1) c_law_over_sum.nd rfl (.inr rfl) (pe_call DtotT.G (hr.mono (by first | decide | omega)) rfl DtotT.g DtotT.kp DtotT.b .nil pass0 (pa_cons (pv 0) pa_nil)))
 (pss_one (ps_ret (pe_callTy call_tuple_of (by rfl) M.tuple (by decide +kernel) (pa_cons (pe_lc (own := [("part", 2)]) rfl c_law_over_sum.nd (pi_tup (pv 0)) (blkOk_by (own := [("part", 2)]) (N := n_law_over_sum) (sc := defScope s_law_over_sum) (by decide +kernel)) (fun _ _ _ _ _ => (pg_name (i := 2) c_law_over_sum.nd rfl (.inl rfl))) (fun _ _ _ _ _ => pts_nil) (fun _ _ _ _ _ => (pe_call Dlaw_over.G (hr.mono (by first | decide | omega)) rfl Dlaw_over.g Dlaw_over.kp Dlaw_over.b .nil pass0 (pa_cons (pv 2) (pa_cons (pv 1) pa_nil))))) pa_nil))))), ?_⟩
    refine ⟨_, rfl, a, xs, qs, n, rfl, ha, hx, hs, by omega, fun u H1 s1 hu => ?_⟩
    have su : Bq.Sz (1 + qs.length * (n + 1)) (Bq.sumQ qs) := by
      have := sz_take hs qs.length (Nat.le_refl _)
      rwa [List.take_length] at this
    have xl := hx.1
    refine ⟨_, rfl, a, rfl, ⟨xs, same_tup s1 ha⟩, fun D nD => lc_rel (walk_tup (K := K) (a := a) (xs := xs)) No (fun H' i y => ∃ p, qs[i]? = some p ∧ Dq (fun b => Old H b ∨ b = D) H' y (frD (p / Bq.sumQ qs)))
      (fun H H' i v k r => ?_) nD (fun _ z => z.elim) (by omega) (fun H' k' => same_tup (s1.trans (no_same k')) ha) ?_ ?_⟩
    · obtain ⟨p, e, h⟩ := r
      exact ⟨p, e, h.keep (k.mono fun b z => z.elim (fun z => z.elim) .inr)⟩
    · rintro i x H2 _ Q' hi k2 nD2 ⟨rfl, hx2⟩ q'
      have e : qs[i]? = some (qs[i]'(by omega)) := List.getElem?_eq_getElem (by omega)
      have s2 := no_same k2
      refine ⟨rfl, _, rfl, _, rfl, x, u, _, _, n, 1 + qs.length * (n + 1), rfl, (hx.2 i x _ hx2 e).same (s1.trans s2), hu.fr.same s2, hs _ (List.mem_of_getElem? e), su, by omega, h0, fun p hp => ?_⟩
      refine q' _ _ (Kp.new hp) ⟨_, e, fr_dq (fun z => ?_) upd_same⟩
      rcases z with z | z
      · exact z ((s1.trans s2).free hp)
      · rw [z] at hp
        exact nD2 hp
    · rintro H2 acc k2 eD hla ha2
      have s2 := no_same k2
      refine ⟨D, acc, rfl, .inl ⟨.of eD, fun t nt => q _ _ ((s1.trans s2).trans (same_new nt)) (.tup (fun z => z ((s1.trans s2).free nt)) upd_same ?_)⟩⟩
      have all : DqAll (fun b => Old H b ∨ b = D) H2 acc ((qs.map fun q => q / Bq.sumQ qs).map frD) := dqAll_of (by rw [List.length_map, List.length_map]; omega) fun i v e => by
        obtain ⟨p, e2, h⟩ := ha2 i v e
        exact ⟨_, by rw [List.getElem?_map, List.getElem?_map, e2]; rfl, h⟩
      exact (all.keep (Kp.new nt)).weak fun b z => .inl z
/-! ### a drawn weight -/
def wt10 : List PyData := [.tuple [.int 1, .int 1], .tuple [.int 2, .int 1], .tuple [.int 1, .int 2], .tuple [.int 1, .int 1], .tuple [.int 3, .int 1], .tuple [.int 1, .int 3], .tuple [.int 1, .int 1], .tuple [.int 3, .int 2], .tuple [.int 2, .int 1], .tuple [.int 1, .int 4]]
theorem wt10_ok : ∀ j, j < 10 → ∃ a b : Nat, 0 < a ∧ a < 5 ∧ 0 < b ∧ b < 5 ∧ Nat.gcd a b = 1 ∧ wt10[j]? = some (.tuple [.int (a : Nat), .int (b : Nat)])
  | 0, _ => ⟨1, 1, by decide, by decide, by decide, by decide, by decide, rfl⟩
  | 1, _ => ⟨2, 1, by decide, by decide, by decide, by decide, by decide, rfl⟩
  | 2, _ => ⟨1, 2, by decide, by decide, by decide, by decide, by decide, rfl⟩
  | 3, _ => ⟨1, 1, by decide, by decide, by decide, by decide, by decide, rfl⟩
  | 4, _ => ⟨3, 1, by decide, by decide, by decide, by decide, by decide, rfl⟩
  | 5, _ => ⟨1, 3, by decide, by decide, by decide, by decide, by decide, rfl⟩
  | 6, _ => ⟨1, 1, by decide, by decide, by decide, by decide, by decide, rfl⟩
  | 7, _ => ⟨3, 2, by decide, by decide, by decide, by decide, by decide, rfl⟩
  | 8, _ => ⟨2, 1, by decide, by decide, by decide, by decide, by decide, rfl⟩
  | 9, _ => ⟨1, 4, by decide, by decide, by decide, by decide, by decide, rfl⟩
  | j + 10, h => by omega
/-- a number that a weight is -/
def WtQ (q : Rat) : Prop := 0 ≤ q ∧ q.num < 2 ^ 20 ∧ q.den ≤ 60
def spWeight : Sp := fun vs H Q _ => ∃ (w l : Addr), vs = [.ref w] ∧ WellAt w l H ∧
  ∀ (H' : Hp) (l' p : Addr) (q : Rat), 0 < q → WtQ q → Kp (At w) H H' → WellAt w l' H' → (l' = l ∨ H l' = none) → p ≠ w → H' p = some (.tup [.int q.num, .int q.den]) → Q (.ref p) H'
theorem ok_lweight {f : Addr} {fd : FuncData} (F : Fun K "_law_weight" "_law_weight" s_law_weight f fd) (M : Mb mg) (Dlaw_pick : Df P w K mg base 1 "_law_pick" ["well", "limit"] spPickL) (Dlaw_frac : Df P w K mg base 1 "_law_frac" ["up", "down"] spLowest) :
    FnOk P w K mg base CX0 2 f fd ["well"] spWeight := by
  refine F.ok c_law_weight (fun vs H Q E h => ?_) (fun cdv A outer s H vs Q E hr h => ?_)
  · obtain ⟨w, l, rfl, _⟩ := h
    rfl
  · obtain ⟨w, l, rfl, hW, q⟩ := h
    refine ⟨_, (pss_cons (ps_set (i := 1) c_law_weight.nd rfl (.inl rfl) (pe_call Dlaw_pick.G (hr.mono (by first | decide | omega)) rfl Dlaw_pick.g Dlaw_pick.kp Dlaw_pick.b .nil pass0 (pa_cons (pv 0) (pa_cons pe_int pa_nil))))
 (pss_cons (ps_if (pt_cmpR op_lt (pv 1) pe_int (nomark _))
 (pss_one (ps_ret (pe_ix ix_tup (pe_tup (pa_cons (pe_tup (pa_cons pe_int (pa_cons pe_int pa_nil))) (pa_cons (pe_tup (pa_cons pe_int (pa_cons pe_int pa_nil))) (pa_cons (pe_tup (pa_cons pe_int (pa_cons pe_int pa_nil))) (pa_cons (pe_tup (pa_cons pe_int (pa_cons pe_int pa_nil))) (pa_cons (pe_tup (pa_cons pe_int (pa_cons pe_int pa_nil))) (pa_cons (pe_tup (pa_cons pe_int (pa_cons pe_int pa_nil))) (pa_cons (pe_tup (pa_cons pe_int (pa_cons pe_int pa_nil))) (pa_cons (pe_tup (pa_cons pe_int (pa_cons pe_int pa_nil))) (pa_cons (pe_tup (pa_cons pe_int (pa_cons pe_int pa_nil))) (pa_cons (pe_tup (pa_cons pe_int (pa_cons pe_int pa_nil))) pa_nil))))))))))) (pe_op op_mod (pe_callTy call_int1 (by rfl) M.int (by decide +kernel) (pa_cons (pv 1) pa_nil)) pe_int) (fun _ _ => rfl))))
 pss_nil)
 (pss_cons (ps_set (i := 2) c_law_weight.nd rfl (.inl rfl) (pe_op op_add pe_int (pe_call Dlaw_pick.G (hr.mono (by first | decide | omega)) rfl Dlaw_pick.g Dlaw_pick.kp Dlaw_pick.b .nil pass0 (pa_cons (pv 0) (pa_cons pe_int pa_nil)))))
 (pss_one (ps_ret (pe_call Dlaw_frac.G (hr.mono (by first | decide | omega)) rfl Dlaw_frac.g Dlaw_frac.kp Dlaw_frac.b .nil pass0 (pa_cons (pe_op op_add pe_int (pe_call Dlaw_pick.G (hr.mono (by first | decide | omega)) rfl Dlaw_pick.g Dlaw_pick.kp Dlaw_pick.b .nil pass0 (pa_cons (pv 0) (pa_cons pe_int pa_nil)))) (pa_cons (pv 2) pa_nil)))))))), ?_⟩
    have up : ∀ {H' H'' : Hp} {a b c : Addr}, (a = l ∨ H a = none) → (b = a ∨ H' b = none) → Kp (At w) H H' → WellAt w b H'' → (b = l ∨ H b = none) := fun {H' H'' a b c} ha hb k W => by
      rcases hb with hb | hb
      · rw [hb]
        exact ha
      · exact .inr (kp_free k hb (by
          obtain ⟨_, _, _, _, e, _⟩ := W
          exact e))
    refine ⟨_, rfl, w, l, _, rfl, by omega, by omega, hW, fun H1 d l1 d0 d1 k1 W1 hl1 => ?_⟩
    obtain ⟨i, rfl⟩ : ∃ i : Nat, d = (i : Int) := ⟨d.toNat, by omega⟩
    refine ⟨_, rfl, _, _, rfl, rfl, _, rfl, ite2 (fun c => ?_) (fun c => ?_)⟩
    · dsimp only [tRet, tOp]
      refine (evd_tup (ds := wt10) ?_ (by decide)) H1 _ fun v H2 s2 e2 => ?_
      · unfold wt10
        repeat (first | exact evds_nil | refine evds_cons ?_ ?_ | exact evd_int | refine evd_tup ?_ (by decide))
      · cases e2 with
        | tup na ea el =>
          rename_i a xs
          have hll : xs.length = 10 := el.length
          obtain ⟨j, hj, ej⟩ : ∃ j : Nat, j < 10 ∧ (i : Int) % 10 = (j : Int) := ⟨i % 10, Nat.mod_lt _ (by omega), rfl⟩
          have ex : xs[j]? = some (xs[j]'(by omega)) := List.getElem?_eq_getElem (by omega)
          obtain ⟨dd, hd, dv⟩ := el.at ex
          obtain ⟨x, y, x0, x5, y0, y5, g, e3⟩ := wt10_ok j hj
          rw [e3] at hd
          obtain rfl := Option.some.inj hd
          obtain ⟨b, ys, eb, nb, eb2, er⟩ := dv.tupI
          obtain ⟨v1, v2, rfl, dx, dy⟩ := er.two
          rw [dx.intI, dy.intI] at eb2
          rw [eb] at ex
          have W2 := well_sameS W1 s2
          obtain ⟨qq, h1, h2⟩ := (Bq.low_iff (a := (x : Int)) (b := (y : Int)) (by omega)).mp (by
            show Nat.gcd (x : Int).natAbs (y : Int).natAbs = 1
            rw [Int.natAbs_natCast, Int.natAbs_natCast]
            exact g)
          have hw1 : H1 w ≠ none := by
            obtain ⟨_, _, _, e, _⟩ := W1
            rw [e]
            exact fun z => nomatch z
          refine ⟨_, rfl, .inl ⟨_, rfl, _, _, rfl, rfl, (by show (0 : Int) < 10; decide), a, xs, _, _, rfl, rfl, .of ea, by rw [ej]; exact atI_nat ex, ?_⟩⟩
          refine q _ l1 b qq (Bq.num_pos.mp (by rw [← h1]; omega)) ⟨Rat.le_of_lt (Bq.num_pos.mp (by rw [← h1]; omega)), by rw [← h1]; omega, by omega⟩ (k1.trans (Kp.same s2)) W2 hl1 (fun z => nb (by rw [z]; exact hw1)) ?_
          rw [eb2, h1, h2]
    · refine ⟨_, rfl, w, l1, _, rfl, by omega, by omega, W1, fun H2 e l2 e0 e1 k2 W2 hl2 => ⟨_, _, rfl, rfl, ?_⟩⟩
      obtain ⟨j, rfl⟩ : ∃ j : Nat, e = (j : Int) := ⟨e.toNat, by omega⟩
      refine ⟨_, rfl, w, l2, _, rfl, by omega, by omega, W2, fun H3 g l3 g0 g1 k3 W3 hl3 => ⟨_, _, rfl, rfl, _, rfl, _, _, 7, rfl, by omega, by omega, by decide, fun p np => ?_⟩⟩
      obtain ⟨u, rfl⟩ : ∃ u : Nat, g = (u : Int) := ⟨g.toNat, by omega⟩
      have q2 := up (c := w) hl1 hl2 k1 W2
      have q3 := up (c := w) q2 hl3 (k1.trans k2) W3
      have hb : (0 : Int) < 1 + (j : Int) := by omega
      have n1 := Bq.q_num (a := 1 + (u : Int)) hb
      have n2 := Bq.q_den (a := 1 + (u : Int)) hb
      have le1 : (Rat.divInt (1 + (u : Int)) (1 + (j : Int))).num ≤ 1 + (u : Int) := by
        rw [n1]
        exact Int.ediv_le_self _ (by omega)
      have le2 : ((Rat.divInt (1 + (u : Int)) (1 + (j : Int))).den : Int) ≤ 1 + (j : Int) := by
        rw [n2]
        exact Int.ediv_le_self _ (by omega)
      have pos : 0 < Rat.divInt (1 + (u : Int)) (1 + (j : Int)) := by
        rw [Rat.divInt_eq_div]
        exact div_pos (by exact_mod_cast (show (0 : Int) < 1 + (u : Int) by omega)) (by exact_mod_cast hb)
      exact q _ l3 p _ pos ⟨Rat.le_of_lt pos, by omega, by omega⟩ (((k1.trans k2).trans k3).trans (Kp.new np)) (W3.new np) q3 (W3.ne np).1 upd_same
end
end Kx
set_option exponentiation.threshold 4000
/-! The law's drawn weights. -/
namespace Kx
open PySem PySem.Spec PyProof.Rows L2 Bw
/-- what may be said of what comes behind -/
theorem seq_cut {a b : TS} {D : Ends} {σ : L2.St} {H : Hp} (R : L2.St → Hp → Prop) (h : ∀ σ H, R σ H → b D σ H) (k : ∀ N' : L2.St → Hp → Prop, (∀ σ H, R σ H → N' σ H) → a { D with nx := N' } σ H) : tSeq a b D σ H := k (b D) h
/-- lists of one's own beside the well -/
structure OwnH (H0 H : Hp) (w l : Addr) (own : Addr → Option (List V)) : Prop where
  kp : Kp (At w) H0 H
  W : WellAt w l H
  own : ∀ a xs, own a = some xs → H a = some (.lst xs) ∧ H0 a = none ∧ a ≠ w ∧ a ≠ l
def setO (own : Addr → Option (List V)) (m : Addr) (ys : List V) : Addr → Option (List V) := fun b => if b = m then some ys else own b
theorem setO_same {own : Addr → Option (List V)} {m : Addr} {ys : List V} : setO own m ys m = some ys := if_pos rfl
theorem setO_ne {own : Addr → Option (List V)} {m b : Addr} {ys : List V} (h : b ≠ m) : setO own m ys b = own b := if_neg h
section
variable {H0 H H' : Hp} {w l l' m : Addr} {own : Addr → Option (List V)} {xs ys : List V} {o : HO}
theorem OwnH.pick (h : OwnH H0 H w l own) (k : Kp (At w) H H') (W : WellAt w l' H') (hl : l' = l ∨ H l' = none) : OwnH H0 H' w l' own :=
  ⟨h.kp.trans k, W, fun a xs e => by
    obtain ⟨h1, h2, h3, h4⟩ := h.own a xs e
    exact ⟨k _ _ h3 h1, h2, h3, well_ne hl h4 h1⟩⟩
theorem OwnH.new (h : OwnH H0 H w l own) (hm : H m = none) : OwnH H0 (upd H m o) w l own :=
  ⟨h.kp.trans (Kp.new hm), h.W.new hm, fun a xs e => by
    obtain ⟨h1, h2, h3, h4⟩ := h.own a xs e
    exact ⟨same_new hm _ _ h1, h2, h3, h4⟩⟩
theorem OwnH.set (h : OwnH H0 H w l own) (e : own m = some xs) : OwnH H0 (upd H m (.lst ys)) w l (setO own m ys) := by
  obtain ⟨h1, h2, h3, h4⟩ := h.own m xs e
  refine ⟨h.kp.upd h2, h.W.frame h3 h4, fun a zs g => ?_⟩
  by_cases c : a = m
  · subst c
    rw [setO_same] at g
    obtain rfl := Option.some.inj g
    exact ⟨upd_same, h2, h3, h4⟩
  · rw [setO_ne c] at g
    obtain ⟨g1, g2, g3, g4⟩ := h.own a zs g
    exact ⟨by rw [upd_ne c]; exact g1, g2, g3, g4⟩
theorem OwnH.add (h : OwnH H0 H w l own) (hm : H m = none) : OwnH H0 (upd H m (.lst ys)) w l (setO own m ys) := by
  have h2 := h.new (o := .lst ys) hm
  refine ⟨h2.kp, h2.W, fun a zs g => ?_⟩
  by_cases c : a = m
  · subst c
    rw [setO_same] at g
    obtain rfl := Option.some.inj g
    exact ⟨upd_same, kp_free h.kp hm (h.W.ne hm).1, (h.W.ne hm).1, (h.W.ne hm).2⟩
  · rw [setO_ne c] at g
    exact h2.own a zs g
theorem OwnH.ne (h : OwnH H0 H w l own) (hm : H m = none) {a : Addr} (e : own a = some xs) : a ≠ m := ne_of_none (h.own a xs e).1 hm
theorem OwnH.nt (h : OwnH H0 H w l own) (e : own m = some xs) : ∀ zs, H m ≠ some (.tup zs) := fun zs => by
  rw [(h.own m xs e).1]
  exact fun z => nomatch z
end
/-- rows of fractions in lists of one's own -/
structure RowsO (own : Addr → Option (List V)) (H : Hp) (rs : List Addr) (n : Nat) (R : Nat → Nat → Rat) : Prop where
  len : rs.length = n
  nd : ∀ (i j : Nat) r, rs[i]? = some r → rs[j]? = some r → i = j
  row : ∀ (i : Nat) r, rs[i]? = some r → ∃ xs, own r = some xs ∧ xs.length = n ∧ ∀ (j : Nat) v, xs[j]? = some v → FrA H v (R i j)
theorem FrA.keepT {H H' : Hp} {v : V} {q : Rat} (h : FrA H v q) (k : ∀ t xs, H t = some (.tup xs) → H' t = some (.tup xs)) : FrA H' v q := by
  obtain ⟨a, rfl, e⟩ := h
  exact ⟨a, rfl, k _ _ e⟩
theorem RowsO.mono {own own' : Addr → Option (List V)} {H H' : Hp} {rs : List Addr} {n : Nat} {R : Nat → Nat → Rat} (h : RowsO own H rs n R) (k : ∀ t xs, H t = some (.tup xs) → H' t = some (.tup xs)) (ho : ∀ r ∈ rs, own' r = own r) : RowsO own' H' rs n R :=
  ⟨h.len, h.nd, fun i r e => by
    obtain ⟨xs, h1, h2, h3⟩ := h.row i r e
    exact ⟨xs, by rw [ho r (List.mem_of_getElem? e)]; exact h1, h2, fun j v ev => (h3 j v ev).keepT k⟩⟩
theorem RowsO.at {own : Addr → Option (List V)} {H : Hp} {rs : List Addr} {n : Nat} {R : Nat → Nat → Rat} (h : RowsO own H rs n R) {i : Nat} (hi : i < n) : ∃ r xs, rs[i]? = some r ∧ own r = some xs ∧ xs.length = n ∧ ∀ (j : Nat) v, xs[j]? = some v → FrA H v (R i j) := by
  have hl := h.len
  have e : rs[i]? = some (rs[i]'(by omega)) := List.getElem?_eq_getElem (by omega)
  obtain ⟨xs, h1, h2, h3⟩ := h.row i _ e
  exact ⟨_, xs, e, h1, h2, h3⟩
theorem RowsO.set {own : Addr → Option (List V)} {H H0 : Hp} {w l : Addr} {rs : List Addr} {n a b : Nat} {R : Nat → Nat → Rat} {r : Addr} {xs : List V} {v : V} {q : Rat} (h : RowsO own H rs n R) (g : OwnH H0 H w l own) (e : rs[a]? = some r) (ex : own r = some xs) (hv : FrA H v q) :
    RowsO (setO own r (xs.set b v)) (upd H r (.lst (xs.set b v))) rs n (fun i j => if i = a ∧ j = b then q else R i j) := by
  have kt := tup_frame (o := .lst (xs.set b v)) (g.nt ex)
  refine ⟨h.len, h.nd, fun i r' e' => ?_⟩
  obtain ⟨ys, h1, h2, h3⟩ := h.row i r' e'
  by_cases c : i = a
  · subst c
    rw [e] at e'
    obtain rfl := Option.some.inj e'
    rw [ex] at h1
    obtain rfl := Option.some.inj h1
    refine ⟨_, setO_same, by rw [List.length_set]; exact h2, fun j u ev => ?_⟩
    by_cases cj : j = b
    · subst cj
      have l1 := (List.getElem?_eq_some_iff.mp ev).1
      rw [List.length_set] at l1
      rw [List.getElem?_set_self l1] at ev
      obtain rfl := Option.some.inj ev
      rw [if_pos ⟨rfl, rfl⟩]
      exact hv.keepT kt
    · rw [List.getElem?_set_ne (Ne.symm cj)] at ev
      rw [if_neg fun z => cj z.2]
      exact (h3 j u ev).keepT kt
  · have ne : r' ≠ r := fun z => c (h.nd i a r (by rw [← z]; exact e') e)
    refine ⟨ys, by rw [setO_ne ne]; exact h1, h2, fun j u ev => ?_⟩
    rw [if_neg fun z => c z.1]
    exact (h3 j u ev).keepT kt
/-- links, either way -/
def Sy (E : List (Nat × Nat)) (x y : Nat) : Prop := (x, y) ∈ E ∨ (y, x) ∈ E
theorem sy_back {E : List (Nat × Nat)} {a b : Nat} (h : Reach (Sy E) a b) : Reach (Sy E) b a :=
  Reach.back (E := Sy E) (h.mono fun x y e => e.symm)
theorem sy_app {E F : List (Nat × Nat)} {a b : Nat} (h : Reach (Sy E) a b) : Reach (Sy (E ++ F)) a b := h.mono fun x y e => e.imp (List.mem_append_left _) (List.mem_append_left _)
/-- places tied, places left -/
structure Tied (n : Nat) (Kn L : List Nat) (E : List (Nat × Nat)) : Prop where
  pm : (Kn ++ L).Perm (List.range n)
  con : ∀ a ∈ Kn, ∀ b ∈ Kn, Reach (Sy E) a b
  lt : ∀ e ∈ E, e.1 < n ∧ e.2 < n
theorem Tied.step {n : Nat} {Kn L : List Nat} {E : List (Nat × Nat)} (h : Tied n Kn L E) {i x c : Nat} (e : L[i]? = some x) (hc : c ∈ Kn) : Tied n (Kn ++ [x]) (L.eraseIdx i) (E ++ [(c, x)]) := by
  have p1 := perm_erase L i x e
  have p2 : (Kn ++ [x] ++ L.eraseIdx i).Perm (List.range n) := by
    rw [List.append_assoc]
    exact (List.Perm.append_left Kn p1).trans h.pm
  have to : Reach (Sy (E ++ [(c, x)])) c x := .one (.inl (by simp))
  have all : ∀ a ∈ Kn ++ [x], Reach (Sy (E ++ [(c, x)])) a c := fun a ha => by
    rcases List.mem_append.mp ha with ha | ha
    · exact sy_app (h.con a ha c hc)
    · rw [List.mem_singleton.mp ha]
      exact sy_back to
  refine ⟨p2, fun a ha b hb => (all a ha).trans (sy_back (all b hb)), fun f hf => ?_⟩
  rcases List.mem_append.mp hf with hf | hf
  · exact h.lt f hf
  · rw [List.mem_singleton.mp hf]
    exact ⟨List.mem_range.mp (h.pm.mem_iff.mp (List.mem_append_left _ hc)), List.mem_range.mp (p2.mem_iff.mp (by simp))⟩
/-- weights by a function -/
structure Bnds (n : Nat) (R : Nat → Nat → Rat) : Prop where
  wt : ∀ i j, WtQ (R i j)
  sy : ∀ i j, R i j = R j i
  con : ∀ a b, a < n → b < n → Reach (fun x y => x < n ∧ y < n ∧ 0 < R x y) a b
  row : ∀ i, i < n → ∃ j, j < n ∧ 0 < R i j
theorem wt_nil : WtQ 0 := ⟨Rat.le_refl, by decide, by decide⟩
section
variable {P : Program} {w : World} {K : PySem.W.Frag} {mg : Str → Option Value} {base : Heap}
def spBonds : Sp := fun vs H Q _ => ∃ (w l : Addr) (n : Nat), vs = [.ref w, .int (n : Nat)] ∧ 1 ≤ n ∧ n ≤ 6 ∧ WellAt w l H ∧
  ∀ (H' : Hp) (l' : Addr) (v : V) (R : Nat → Nat → Rat), Kp (At w) H H' → WellAt w l' H' → (l' = l ∨ H l' = none) → Dq (At w) H' v (tabD (tabF n R)) → Bnds n R → Q v H'
set_option maxHeartbeats 8000000 in
theorem ok_lbonds {f : Addr} {fd : FuncData} (F : Fun K "_law_bonds" "_law_bonds" s_law_bonds f fd) (M : Mb mg) (Dlaw_pick : Df P w K mg base 1 "_law_pick" ["well", "limit"] spPickL) (Dlaw_of : Df P w K mg base 2 "_law_of" ["well", "some"] (spOfL K)) (Dlaw_weight : Df P w K mg base 2 "_law_weight" ["well"] spWeight) :
    FnOk P w K mg base CX0 3 f fd ["well", "many"] spBonds := by
  refine F.ok c_law_bonds (fun vs H Q E h => ?_) (fun cdv A outer s H vs Q E hr h => ?_)
  · obtain ⟨w, l, n, rfl, _⟩ := h
    rfl
  · obtain ⟨w, l, n, rfl, n1, n6, hW, q⟩ := h
    have hu := hr.units
    refine ⟨_, (pss_cons (ps_par3 (i := 2) (j := 3) (l := 4) (by rfl) c_law_bonds.nd rfl rfl rfl (by decide) (by decide) (by decide) rfl rfl rfl (pa_cons (pe_listRg rfl (by rfl) M.list (prg_1 (by rfl) M.range (pv 1))) (pa_cons (pe_lst pa_nil) (pa_cons (pe_lc (own := [("turn", 5)]) rfl c_law_bonds.nd (pi_range1 (by rfl) M.range (pa_cons (pv 1) pa_nil)) (blkOk_by (own := [("turn", 5)]) (N := n_law_bonds) (sc := defScope s_law_bonds) (by decide +kernel)) (fun _ _ _ _ _ => (pg_name (i := 5) c_law_bonds.nd rfl (.inl rfl))) (fun _ _ _ _ _ => pts_nil) (fun _ _ _ _ _ => (pe_op op_rep (pe_lst (pa_cons (pe_tup (pa_cons pe_int (pa_cons pe_int pa_nil))) pa_nil)) (pv 1)))) pa_nil))) (by rfl))
 (pss_cons (ps_expr (pe_bm PySem.F.plainAttrs_list PySem.F.slot_list_append PySem.F.type_list_append mt_append (pv 3) (pa_cons (pe_bm PySem.F.plainAttrs_list PySem.F.slot_list_pop PySem.F.type_list_pop mt_popAt (pv 2) (pa_cons (pe_call Dlaw_pick.G (hr.mono (by first | decide | omega)) rfl Dlaw_pick.g Dlaw_pick.kp Dlaw_pick.b .nil pass0 (pa_cons (pv 0) (pa_cons (pv 1) pa_nil))) pa_nil)) pa_nil)))
 (pss_cons (ps_set (i := 6) c_law_bonds.nd rfl (.inl rfl) (pe_ifExp (pt_cmpR op_eq (pv 1) pe_int (nomark _)) (pe_lst (pa_cons (pe_tup (pa_cons pe_int (pa_cons pe_int pa_nil))) pa_nil)) (pe_lst pa_nil)))
 (pss_cons (ps_for PassesOwn.never rfl (pi_range1 (by rfl) M.range (pa_cons (pe_op op_sub (pv 1) pe_int) pa_nil)) (pg_name (i := 5) c_law_bonds.nd rfl (.inl rfl))
 (pss_cons (ps_set (i := 7) c_law_bonds.nd rfl (.inl rfl) (pe_bm PySem.F.plainAttrs_list PySem.F.slot_list_pop PySem.F.type_list_pop mt_popAt (pv 2) (pa_cons (pe_call Dlaw_pick.G (hr.mono (by first | decide | omega)) rfl Dlaw_pick.g Dlaw_pick.kp Dlaw_pick.b .nil pass0 (pa_cons (pv 0) (pa_cons (pe_callB call_len_seq (by rfl) M.len (by decide +kernel) (pa_cons (pv 2) pa_nil)) pa_nil))) pa_nil)))
 (pss_cons (ps_expr (pe_bm PySem.F.plainAttrs_list PySem.F.slot_list_append PySem.F.type_list_append mt_append (pv 6) (pa_cons (pe_tup (pa_cons (pe_call Dlaw_of.G (hr.mono (by first | decide | omega)) rfl Dlaw_of.g Dlaw_of.kp Dlaw_of.b .nil pass0 (pa_cons (pv 0) (pa_cons (pv 3) pa_nil))) (pa_cons (pv 7) pa_nil))) pa_nil)))
 (pss_one (ps_expr (pe_bm PySem.F.plainAttrs_list PySem.F.slot_list_append PySem.F.type_list_append mt_append (pv 3) (pa_cons (pv 7) pa_nil)))))))
 (pss_cons (ps_for PassesOwn.never rfl (pi_range1 (by rfl) M.range (pa_cons (pe_call Dlaw_pick.G (hr.mono (by first | decide | omega)) rfl Dlaw_pick.g Dlaw_pick.kp Dlaw_pick.b .nil pass0 (pa_cons (pv 0) (pa_cons (pe_op op_add (pv 1) pe_int) pa_nil))) pa_nil)) (pg_name (i := 5) c_law_bonds.nd rfl (.inl rfl))
 (pss_cons (ps_set (i := 8) c_law_bonds.nd rfl (.inl rfl) (pe_call Dlaw_pick.G (hr.mono (by first | decide | omega)) rfl Dlaw_pick.g Dlaw_pick.kp Dlaw_pick.b .nil pass0 (pa_cons (pv 0) (pa_cons (pv 1) pa_nil))))
 (pss_one (ps_expr (pe_bm PySem.F.plainAttrs_list PySem.F.slot_list_append PySem.F.type_list_append mt_append (pv 6) (pa_cons (pe_tup (pa_cons (pv 8) (pa_cons (pe_call Dlaw_pick.G (hr.mono (by first | decide | omega)) rfl Dlaw_pick.g Dlaw_pick.kp Dlaw_pick.b .nil pass0 (pa_cons (pv 0) (pa_cons (pv 1) pa_nil))) pa_nil))) pa_nil))))))
 (pss_cons (ps_for PassesOwn.never rfl (pi_list (pv 6)) (pg_tup rfl (pgs_cons (pg_name (i := 8) c_law_bonds.nd rfl (.inl rfl)) (pgs_cons (pg_name (i := 7) c_law_bonds.nd rfl (.inl rfl)) pgs_nil)))
 (pss_cons (ps_asg (pe_call Dlaw_weight.G (hr.mono (by first | decide | omega)) rfl Dlaw_weight.g Dlaw_weight.kp Dlaw_weight.b .nil pass0 (pa_cons (pv 0) pa_nil)) (pg_sub (pe_ix ix_list (pv 4) (pv 8) (fun _ _ => rfl)) (pv 7) set_list))
 (pss_one (ps_asg (pe_ix ix_list (pe_ix ix_list (pv 4) (pv 8) (fun _ _ => rfl)) (pv 7) (fun _ _ => rfl)) (pg_sub (pe_ix ix_list (pv 4) (pv 7) (fun _ _ => rfl)) (pv 8) set_list)))))
 (pss_one (ps_ret (pe_callTy call_tuple_of (by rfl) M.tuple (by decide +kernel) (pa_cons (pe_lc (own := [("row", 9)]) rfl c_law_bonds.nd (pi_list (pv 4)) (blkOk_by (own := [("row", 9)]) (N := n_law_bonds) (sc := defScope s_law_bonds) (by decide +kernel)) (fun _ _ _ _ _ => (pg_name (i := 9) c_law_bonds.nd rfl (.inl rfl))) (fun _ _ _ _ _ => pts_nil) (fun _ _ _ _ _ => (pe_callTy (call_tupK (K := K) rfl) (by rfl) M.tuple (by decide +kernel) (pa_cons (pv 9) pa_nil)))) pa_nil)))))))))), ?_⟩
    have up : ∀ {H' H'' : Hp} {a b c : Addr}, (a = l ∨ H a = none) → (b = a ∨ H' b = none) → Kp (At w) H H' → WellAt w b H'' → (b = l ∨ H b = none) := fun {H' H'' a b c} ha hb k W => by
      rcases hb with hb | hb
      · rw [hb]
        exact ha
      · exact .inr (kp_free k hb (by
          obtain ⟨_, _, _, _, e, _⟩ := W
          exact e))
    have em : ((n : Nat) : Int).toNat = n := Int.toNat_natCast n
    refine ⟨_, rfl, _, rfl, ⟨by omega, by omega, by omega, by omega, by omega⟩, fun lA nl => ⟨Nat.zero_le _, fun kA nk => ?_⟩⟩
    have rg : rgV 0 (n : Int) = nats (List.range n) := by
      unfold rgV nats
      have e : ((n : Int) - 0).toNat = n := by omega
      rw [e]
      refine List.map_congr_left fun i _ => ?_
      rw [Int.zero_add]
    rw [rg] at nk ⊢
    have h0 : OwnH H (upd (upd H lA (.lst (nats (List.range n)))) kA (.lst (nats []))) w l (setO (setO (fun _ => none) lA (nats (List.range n))) kA (nats [])) := by
      have g : OwnH H H w l (fun _ => none) := ⟨.refl _, hW, fun a xs e => nomatch e⟩
      exact (g.add nl).add nk
    have lk : lA ≠ kA := ne_of_none (show (upd H lA (.lst (nats (List.range n)))) lA = some _ from upd_same) nk
    have oL : (setO (setO (fun _ => none) lA (nats (List.range n))) kA (nats [])) lA = some (nats (List.range n)) := by
      rw [setO_ne lk]
      exact setO_same
    have oK : (setO (setO (fun _ => none) lA (nats (List.range n))) kA (nats [])) kA = some (nats []) := setO_same
    have eqH : upd (upd H lA (.lst (nats (List.range n)))) kA (.lst []) = upd (upd H lA (.lst (nats (List.range n)))) kA (.lst (nats [])) := rfl
    rw [eqH]
    generalize upd (upd H lA (.lst (nats (List.range n)))) kA (.lst (nats [])) = H1 at h0 ⊢
    generalize setO (setO (fun _ => none) lA (nats (List.range n))) kA (nats []) = own0 at h0 oL oK
    -- rows of nothing
    refine ⟨_, rfl, _, rfl, by omega, by omega, fun D nD => ?_⟩
    rw [em]
    refine lc_it (walk_range (lo := 0) (n := n)) (fun i H' => Same H1 H' ∧ ∃ rs : List Addr, H' D = some (.lst (rs.map V.ref)) ∧ rs.length = i ∧ (∀ (i j : Nat) r, rs[i]? = some r → rs[j]? = some r → i = j) ∧ ∀ r ∈ rs, r ≠ D ∧ H1 r = none ∧ ∃ p, H' r = some (.lst (List.replicate n (.ref p))) ∧ H' p = some (.tup [.int 0, .int 1]))
      ⟨same_new nD, [], upd_same, rfl, fun i j r e => by simp at e, fun r hr => by simp at hr⟩ (fun i H _ p => trivial) ?_ ?_
    · rintro i x _ H2 hi ⟨s2, rs, eD, hl, nd, hrs⟩ ⟨rfl, rfl⟩
      refine ⟨rfl, ?_⟩
      unfold tYes
      refine ifT rfl ?_
      refine ⟨sz63 (by show 2 ≤ 1000; decide), fun t nt => ⟨sz63 (by show 1 ≤ 1000; decide), fun u nu => ⟨_, rfl, u, _, _, rfl, rfl, upd_same, by omega, by omega, ?_, fun r nr => ?_⟩⟩⟩
      · refine sz63 ?_
        show 1 * ((n : Int)).toNat ≤ 1000
        omega
      have en : (List.replicate ((n : Int)).toNat [V.ref t]).flatten = List.replicate n (.ref t) := by
        rw [Int.toNat_natCast]
        exact List.flatten_replicate_singleton
      rw [en]
      have s3 : Same H2 (upd (upd (upd H2 t (.tup [.int 0, .int 1])) u (.lst [.ref t])) r (.lst (List.replicate n (.ref t)))) := ((same_new nt).trans (same_new nu)).trans (same_new nr)
      have er : (upd (upd (upd H2 t (.tup [.int 0, .int 1])) u (.lst [.ref t])) r (.lst (List.replicate n (.ref t)))) r = some (.lst (List.replicate n (.ref t))) := upd_same
      have et : (upd (upd (upd H2 t (.tup [.int 0, .int 1])) u (.lst [.ref t])) r (.lst (List.replicate n (.ref t)))) t = some (.tup [.int 0, .int 1]) := ((same_new nu).trans (same_new nr)) _ _ upd_same
      have r2 : H2 r = none := ((same_new nt).trans (same_new nu)).free nr
      generalize upd (upd (upd H2 t (.tup [.int 0, .int 1])) u (.lst [.ref t])) r (.lst (List.replicate n (.ref t))) = H3 at s3 er et
      have eD3 := s3 _ _ eD
      have rD : r ≠ D := Ne.symm (ne_of_none eD r2)
      have keepL : ∀ {a : Addr} {o : HO} {acc : List V}, a ≠ D → H3 a = some o → (upd H3 D (.lst acc)) a = some o := fun ne e => by
        rw [upd_ne ne]
        exact e
      have tD : ∀ {t : Addr} {xs : List V}, H3 t = some (.tup xs) → t ≠ D := fun e z => by
        rw [z, eD3] at e
        cases e
      refine ⟨_, eD3, by rw [List.length_map]; exact sz63' (by omega), same_mut (s2.trans s3) nD, rs ++ [r], by rw [upd_same, List.map_append]; rfl, by rw [List.length_append, hl]; rfl, fun a b x ea eb => ?_, fun x hx => ?_⟩
      · have nin : ∀ (c : Nat), rs[c]? ≠ some r := fun c ec => by
          obtain ⟨_, _, p, h3, _⟩ := hrs r (List.mem_of_getElem? ec)
          rw [r2] at h3
          cases h3
        have la := (List.getElem?_eq_some_iff.mp ea).1
        have lb := (List.getElem?_eq_some_iff.mp eb).1
        rw [List.length_append, List.length_singleton] at la lb
        by_cases ca : a < rs.length
        · rw [List.getElem?_append_left ca] at ea
          by_cases cb : b < rs.length
          · rw [List.getElem?_append_left cb] at eb
            exact nd a b x ea eb
          · rw [List.getElem?_append_right (by omega), show b - rs.length = 0 by omega] at eb
            have : r = x := by simpa using eb
            rw [← this] at ea
            exact absurd ea (nin a)
        · rw [List.getElem?_append_right (by omega), show a - rs.length = 0 by omega] at ea
          have hx : r = x := by simpa using ea
          by_cases cb : b < rs.length
          · rw [List.getElem?_append_left cb, ← hx] at eb
            exact absurd eb (nin b)
          · omega
      · rcases List.mem_append.mp hx with hx | hx
        · obtain ⟨g1, g2, p, g3, g4⟩ := hrs x hx
          exact ⟨g1, g2, p, keepL g1 (s3 _ _ g3), keepL (tD (s3 _ _ g4)) (s3 _ _ g4)⟩
        · have : x = r := by simpa using hx
          subst this
          exact ⟨rD, s2.free r2, t, keepL rD er, keepL (tD et) et⟩
    rintro H2 ⟨s2, rs, eD, rl, rnd, hrs⟩
    -- all lists of its own so far
    obtain ⟨own1, h1, oL1, oK1, oD1, ro1⟩ : ∃ own1, OwnH H H2 w l own1 ∧ own1 lA = some (nats (List.range n)) ∧ own1 kA = some (nats []) ∧ own1 D = some (rs.map V.ref) ∧ RowsO own1 H2 rs n fun _ _ => 0 := by
      have D0 : H D = none := kp_free h0.kp nD (h0.W.ne nD).1
      refine ⟨fun b => if b ∈ rs then (match H2 b with | some (.lst xs) => some xs | _ => none) else setO own0 D (rs.map V.ref) b, ⟨h0.kp.trans (Kp.same s2), well_sameS h0.W s2, fun a xs e => ?_⟩, ?_, ?_, ?_, ⟨rl, rnd, fun i r e => ?_⟩⟩
      · by_cases c : a ∈ rs
        · rw [if_pos c] at e
          obtain ⟨g1, g2, p, g3, g4⟩ := hrs a c
          rw [g3] at e
          obtain rfl := Option.some.inj e
          exact ⟨g3, kp_free h0.kp g2 (h0.W.ne g2).1, (h0.W.ne g2).1, (h0.W.ne g2).2⟩
        · rw [if_neg c] at e
          by_cases c2 : a = D
          · subst c2
            rw [setO_same] at e
            obtain rfl := Option.some.inj e
            exact ⟨eD, D0, (h0.W.ne nD).1, (h0.W.ne nD).2⟩
          · rw [setO_ne c2] at e
            obtain ⟨g1, g2, g3, g4⟩ := h0.own a xs e
            exact ⟨s2 _ _ g1, g2, g3, g4⟩
      · show (if lA ∈ rs then _ else _) = _
        rw [if_neg fun z => (h0.ne (hrs lA z).2.1 oL) rfl, setO_ne (h0.ne nD oL)]
        exact oL
      · show (if kA ∈ rs then _ else _) = _
        rw [if_neg fun z => (h0.ne (hrs kA z).2.1 oK) rfl, setO_ne (h0.ne nD oK)]
        exact oK
      · show (if D ∈ rs then _ else _) = _
        rw [if_neg fun z => (hrs D z).1 rfl]
        exact setO_same
      · obtain ⟨g1, g2, p, g3, g4⟩ := hrs r (List.mem_of_getElem? e)
        refine ⟨List.replicate n (.ref p), ?_, List.length_replicate, fun j v ev => ?_⟩
        · show (if r ∈ rs then _ else _) = _
          rw [if_pos (List.mem_of_getElem? e), g3]
        · rw [List.eq_of_mem_replicate (List.mem_of_getElem? ev)]
          exact ⟨p, rfl, g4⟩
    have Dl : lA ≠ D := h0.ne nD oL
    have Dk : kA ≠ D := h0.ne nD oK
    have rsn : ∀ r ∈ rs, r ≠ lA ∧ r ≠ kA ∧ r ≠ D := fun r hr => ⟨Ne.symm (h0.ne (hrs r hr).2.1 oL), Ne.symm (h0.ne (hrs r hr).2.1 oK), (hrs r hr).1⟩
    clear hrs rnd eD s2 nD h0 oL oK own0 nl nk rg eqH H1
    refine ⟨_, _, _, rfl, ?_⟩
    -- the first place
    refine ⟨_, rfl, .inl ⟨rfl, _, .of (h1.own _ _ oK1).1⟩, _, rfl, .inl ⟨rfl, _, .of (h1.own _ _ oL1).1⟩, _, rfl, _, rfl, w, l, _, rfl, by omega, by omega, h1.W, fun H3 d l3 d0 d1 k3 W3 hl3 => ?_⟩
    have h3 := h1.pick k3 W3 hl3
    have q3 := up (c := w) (.inl rfl) hl3 h1.kp W3
    have ro3 := ro1.mono (own' := own1) (fun t xs e => k3 _ _ (h1.W.notTup e) e) fun r _ => rfl
    obtain ⟨i, rfl⟩ : ∃ i : Nat, d = (i : Int) := ⟨d.toNat, by omega⟩
    have hi : i < n := by omega
    have ei : (List.range n)[i]? = some i := List.getElem?_range hi
    refine ⟨lA, _, _, i, .int (i : Nat), rfl, rfl, (h3.own _ _ oL1).1, by omega, by omega, seqI (by rw [nats_len, List.length_range]; exact hi), by unfold nats; rw [List.getElem?_map, ei]; rfl, ?_⟩
    rw [erase_nats]
    have h4 := h3.set (ys := nats ((List.range n).eraseIdx i)) oL1
    have ro4 := ro3.mono (own' := setO own1 lA (nats ((List.range n).eraseIdx i))) (tup_frame (o := .lst (nats ((List.range n).eraseIdx i))) (h3.nt oL1)) fun r hr => setO_ne (rsn r hr).1
    have oK4 : setO own1 lA (nats ((List.range n).eraseIdx i)) kA = some (nats []) := by
      rw [setO_ne (Ne.symm lk)]
      exact oK1
    have oD4 : setO own1 lA (nats ((List.range n).eraseIdx i)) D = some (rs.map V.ref) := by
      rw [setO_ne (Ne.symm Dl)]
      exact oD1
    have oL4 : setO own1 lA (nats ((List.range n).eraseIdx i)) lA = some (nats ((List.range n).eraseIdx i)) := setO_same
    generalize upd H3 lA (.lst (nats ((List.range n).eraseIdx i))) = H4 at h4 ro4 ⊢
    generalize setO own1 lA (nats ((List.range n).eraseIdx i)) = own4 at h4 ro4 oK4 oD4 oL4
    refine ⟨kA, _, _, rfl, rfl, (h4.own _ _ oK4).1, Nat.lt_of_le_of_lt (Nat.zero_le 0) (by decide), ?_⟩
    have h5 : OwnH H (upd H4 kA (.lst (nats [i]))) w l3 (setO own4 kA (nats [i])) := h4.set oK4
    have ro5 := ro4.mono (own' := setO own4 kA (nats [i])) (tup_frame (o := .lst (nats [i])) (h4.nt oK4)) fun r hr => setO_ne (rsn r hr).2.1
    have oK5 : setO own4 kA (nats [i]) kA = some (nats [i]) := setO_same
    have oD5 : setO own4 kA (nats [i]) D = some (rs.map V.ref) := by
      rw [setO_ne (Ne.symm Dk)]
      exact oD4
    have oL5 : setO own4 kA (nats [i]) lA = some (nats ((List.range n).eraseIdx i)) := by
      rw [setO_ne lk]
      exact oL4
    have eqK : upd H4 kA (.lst (nats [] ++ [.int (i : Nat)])) = upd H4 kA (.lst (nats [i])) := rfl
    rw [eqK]
    generalize upd H4 kA (.lst (nats [i])) = H5 at h5 ro5 ⊢
    generalize setO own4 kA (nats [i]) = own5 at h5 ro5 oK5 oD5 oL5
    have ti5 : Tied n [i] ((List.range n).eraseIdx i) [] := ⟨perm_erase (List.range n) i i ei, fun a ha b hb => by
      rw [List.mem_singleton.mp ha, List.mem_singleton.mp hb]
      exact .refl, fun e he => by simp at he⟩
    have L5 : ((List.range n).eraseIdx i).length + 1 = n := by
      rw [List.length_eraseIdx_of_lt (by rw [List.length_range]; exact hi), List.length_range]
      omega
    clear h4 ro4 oK4 oD4 oL4 own4 h3 ro3 h1 ro1 oL1 oK1 oD1 own1 k3 W3 hl3 eqK d0 d1
    -- the ties
    try dsimp only
    refine seq_cut (fun σ H' => ∃ fA own ts E, σ = [some (.ref w), some (.int (n : Nat)), some (.ref lA), some (.ref kA), some (.ref D), none, some (.ref fA), none, none, none] ∧ OwnH H H' w l3 own ∧ own lA = some (nats ((List.range n).eraseIdx i)) ∧ own kA = some (nats [i]) ∧ own D = some (rs.map V.ref) ∧ own fA = some (ts.map V.ref) ∧
      RowsO own H' rs n (fun _ _ => 0) ∧ TupsAt H' ts E ∧ Tied n [i] ((List.range n).eraseIdx i) E ∧ E.length ≤ 1 ∧ (n = 1 → (0, 0) ∈ E) ∧ lA ≠ fA ∧ kA ≠ fA ∧ D ≠ fA ∧ ∀ r ∈ rs, r ≠ fA) ?_ ?_
    · clear h5 ro5 oK5 oD5 oL5 ti5 own5
      rintro σ H6 ⟨fA, own6, ts, E, rfl, h6, oL6, oK6, oD6, oF6, ro6, tp6, ti6, el6, e16, fl, fk, fD, frs⟩
      refine ⟨_, rfl, _, _, rfl, rfl, _, rfl, by omega, by omega, ?_⟩
      have en1 : ((n : Int) - 1).toNat = n - 1 := by omega
      rw [en1]
      refine for_range (lo := 0) (n := n - 1) (fun t σ H' => ∃ l' own L Kn ts E y5 y7, σ = [some (.ref w), some (.int (n : Nat)), some (.ref lA), some (.ref kA), some (.ref D), y5, some (.ref fA), y7, none, none] ∧ (l' = l ∨ H l' = none) ∧ OwnH H H' w l' own ∧ own lA = some (nats L) ∧ own kA = some (nats Kn) ∧ own D = some (rs.map V.ref) ∧ own fA = some (ts.map V.ref) ∧
          RowsO own H' rs n (fun _ _ => 0) ∧ TupsAt H' ts E ∧ Tied n Kn L E ∧ E.length ≤ 1 + t ∧ (n = 1 → (0, 0) ∈ E) ∧ L.length + 1 + t = n ∧ Kn.length = 1 + t)
        ⟨l3, own6, _, _, ts, E, _, _, rfl, q3, h6, oL6, oK6, oD6, oF6, ro6, tp6, ti6, el6, e16, by omega, rfl⟩ ?_ ?_
      · clear h6 oL6 oK6 oD6 oF6 ro6 tp6 ti6 el6 e16 q3
        rintro t σ H7 ht ⟨l7, own7, L, Kn, ts, E, y5, y7, rfl, q7, h7, oL7, oK7, oD7, oF7, ro7, tp7, ti7, el7, e17, lL, lK⟩
        refine ⟨_, rfl, .inl ⟨rfl, _, .of (h7.own _ _ oL7).1⟩, _, rfl, _, rfl, lA, _, rfl, .inl (.of (h7.own _ _ oL7).1), w, l7, _, rfl, by rw [nats_len]; omega, by rw [nats_len]; omega, h7.W, fun H8 d8 l8 dl du k8 W8 hl8 => ?_⟩
        rw [nats_len] at du
        have h8 := h7.pick k8 W8 hl8
        have q8 := up (c := w) q7 hl8 h7.kp W8
        have kt8 : ∀ t xs, H7 t = some (.tup xs) → H8 t = some (.tup xs) := fun t xs e => k8 _ _ (h7.W.notTup e) e
        have ro8 := ro7.mono (own' := own7) kt8 fun r _ => rfl
        have tp8 := tp7.mono kt8
        obtain ⟨j, rfl⟩ : ∃ j : Nat, d8 = (j : Int) := ⟨d8.toNat, by omega⟩
        have hj : j < L.length := by omega
        have ej : L[j]? = some L[j] := List.getElem?_eq_getElem hj
        have ll := List.length_eraseIdx_of_lt hj
        generalize L[j] = x at ej
        refine ⟨lA, _, _, j, .int (x : Nat), rfl, rfl, (h8.own _ _ oL7).1, by omega, by omega, seqI (by rw [nats_len]; exact hj), by unfold nats; rw [List.getElem?_map, ej]; rfl, ?_⟩
        rw [erase_nats]
        have h9 := h8.set (ys := nats (L.eraseIdx j)) oL7
        have kt9 := tup_frame (o := .lst (nats (L.eraseIdx j))) (h8.nt oL7)
        have ro9 := ro8.mono (own' := setO own7 lA (nats (L.eraseIdx j))) kt9 fun r hr => setO_ne (rsn r hr).1
        have tp9 := tp8.mono kt9
        have oL9 : setO own7 lA (nats (L.eraseIdx j)) lA = some (nats (L.eraseIdx j)) := setO_same
        have oK9 : setO own7 lA (nats (L.eraseIdx j)) kA = some (nats Kn) := by
          rw [setO_ne (Ne.symm lk)]
          exact oK7
        have oD9 : setO own7 lA (nats (L.eraseIdx j)) D = some (rs.map V.ref) := by
          rw [setO_ne (Ne.symm Dl)]
          exact oD7
        have oF9 : setO own7 lA (nats (L.eraseIdx j)) fA = some (ts.map V.ref) := by
          rw [setO_ne (Ne.symm fl)]
          exact oF7
        generalize upd H8 lA (.lst (nats (L.eraseIdx j))) = H9 at h9 ro9 tp9 ⊢
        generalize setO own7 lA (nats (L.eraseIdx j)) = own9 at h9 ro9 oL9 oK9 oD9 oF9
        clear h8 ro8 tp8 kt8 kt9 h7 ro7 tp7 oL7 oK7 oD7 oF7 k8 W8 hl8
        refine ⟨_, rfl, .inl ⟨rfl, _, .of (h9.own _ _ oF9).1⟩, _, rfl, _, rfl, w, l8, kA, _, rfl, h9.W, (h9.own _ _ oK9).2.2.1, .inl (.of (h9.own _ _ oK9).1), by rw [nats_len]; omega, by rw [nats_len]; omega, fun HA iA vA lA' eA kA' WA hlA => ⟨_, rfl, sz63 (by show 2 ≤ 1000; decide), fun p np => ?_⟩⟩
        have hA := h9.pick kA' WA hlA
        have qA := up (c := w) q8 hlA h9.kp WA
        have ktA : ∀ t xs, H9 t = some (.tup xs) → HA t = some (.tup xs) := fun t xs e => kA' _ _ (h9.W.notTup e) e
        obtain ⟨c, hc, rfl⟩ := nats_get eA
        have hB := hA.new (o := .tup [.int (c : Nat), .int (x : Nat)]) np
        have sB : Same HA (upd HA p (.tup [.int (c : Nat), .int (x : Nat)])) := same_new np
        have eB : (upd HA p (.tup [.int (c : Nat), .int (x : Nat)])) p = some (.tup [.int (c : Nat), .int (x : Nat)]) := upd_same
        have roB := (ro9.mono (own' := own9) ktA fun r _ => rfl).mono (own' := own9) (fun t xs e => sB _ _ e) fun r _ => rfl
        have tpB := (tp9.mono ktA).mono fun t xs e => sB _ _ e
        generalize upd HA p (.tup [.int (c : Nat), .int (x : Nat)]) = HB at hB sB eB roB tpB ⊢
        have tlB := tpB.1
        refine ⟨fA, _, _, rfl, rfl, (hB.own _ _ oF9).1, by rw [List.length_map]; exact sz63' (by omega), ?_⟩
        have hC := hB.set (ys := ts.map V.ref ++ [.ref p]) oF9
        have ktC := tup_frame (o := .lst (ts.map V.ref ++ [.ref p])) (hB.nt oF9)
        have roC := roB.mono (own' := setO own9 fA (ts.map V.ref ++ [.ref p])) ktC fun r hr => setO_ne (frs r hr)
        have tpC := (tpB.mono ktC).snoc (ktC _ _ eB)
        have oLC : setO own9 fA (ts.map V.ref ++ [.ref p]) lA = some (nats (L.eraseIdx j)) := by
          rw [setO_ne fl]
          exact oL9
        have oKC : setO own9 fA (ts.map V.ref ++ [.ref p]) kA = some (nats Kn) := by
          rw [setO_ne fk]
          exact oK9
        have oDC : setO own9 fA (ts.map V.ref ++ [.ref p]) D = some (rs.map V.ref) := by
          rw [setO_ne fD]
          exact oD9
        have oFC : setO own9 fA (ts.map V.ref ++ [.ref p]) fA = some ((ts ++ [p]).map V.ref) := by
          rw [setO_same, List.map_append]
          rfl
        generalize upd HB fA (.lst (ts.map V.ref ++ [.ref p])) = HC at hC roC tpC ⊢
        generalize setO own9 fA (ts.map V.ref ++ [.ref p]) = ownC at hC roC oLC oKC oDC oFC
        clear hA hB roB tpB h9 ro9 tp9 oL9 oK9 oD9 oF9 ktC ktA eB sB np WA hlA kA'
        refine ⟨_, rfl, .inl ⟨rfl, _, .of (hC.own _ _ oKC).1⟩, _, rfl, kA, _, _, rfl, rfl, (hC.own _ _ oKC).1, by rw [nats_len]; exact sz63' (by omega), ?_⟩
        have eK : nats Kn ++ [.int (x : Nat)] = nats (Kn ++ [x]) := by
          unfold nats
          rw [List.map_append]
          rfl
        rw [eK]
        have hE := hC.set (ys := nats (Kn ++ [x])) oKC
        have ktE := tup_frame (o := .lst (nats (Kn ++ [x]))) (hC.nt oKC)
        refine ⟨lA', _, L.eraseIdx j, Kn ++ [x], ts ++ [p], E ++ [(c, x)], _, _, rfl, qA, hE, ?_, setO_same, ?_, ?_, roC.mono ktE fun r hr => setO_ne (rsn r hr).2.1, tpC.mono ktE, ti7.step ej (List.mem_of_getElem? hc), by rw [List.length_append]; show E.length + 1 ≤ _; omega, fun z => List.mem_append_left _ (e17 z), by omega, by rw [List.length_append]; show Kn.length + 1 = _; omega⟩
        · rw [setO_ne lk]
          exact oLC
        · rw [setO_ne (Ne.symm Dk)]
          exact oDC
        · rw [setO_ne (Ne.symm fk)]
          exact oFC
      · clear h6 oL6 oK6 oD6 oF6 ro6 tp6 ti6 el6 e16 q3
        rintro σ H7 ⟨l7, own7, L, Kn, ts, E, y5, y7, rfl, q7, h7, oL7, oK7, oD7, oF7, ro7, tp7, ti7, el7, e17, lL, lK⟩
        have L0 : L = [] := List.eq_nil_of_length_eq_zero (by omega)
        have con7 : ∀ a b, a < n → b < n → Reach (Sy E) a b := fun a b ha hb => by
          have pm := ti7.pm
          rw [L0, List.append_nil] at pm
          exact ti7.con a (pm.mem_iff.mpr (List.mem_range.mpr ha)) b (pm.mem_iff.mpr (List.mem_range.mpr hb))
        have lt7 := ti7.lt
        clear ti7 L0 lL lK oL7 oK7
        -- more ties
        refine ⟨_, rfl, _, rfl, _, _, rfl, rfl, w, l7, _, rfl, by omega, by omega, h7.W, fun H8 d8 l8 d80 d81 k8 W8 hl8 => ?_⟩
        have h8 := h7.pick k8 W8 hl8
        have q8 := up (c := w) q7 hl8 h7.kp W8
        have kt8 : ∀ t xs, H7 t = some (.tup xs) → H8 t = some (.tup xs) := fun t xs e => k8 _ _ (h7.W.notTup e) e
        have ro8 := ro7.mono (own' := own7) kt8 fun r _ => rfl
        have tp8 := tp7.mono kt8
        obtain ⟨dn, rfl⟩ : ∃ x : Nat, d8 = (x : Int) := ⟨d8.toNat, by omega⟩
        clear h7 ro7 tp7 kt8 k8 W8 hl8 q7
        refine ⟨_, rfl, by omega, by omega, ?_⟩
        refine for_range (lo := 0) (n := dn) (fun t σ H' => ∃ l' own ts E y5 y7 y8, σ = [some (.ref w), some (.int (n : Nat)), some (.ref lA), some (.ref kA), some (.ref D), y5, some (.ref fA), y7, y8, none] ∧ (l' = l ∨ H l' = none) ∧ OwnH H H' w l' own ∧ own D = some (rs.map V.ref) ∧ own fA = some (ts.map V.ref) ∧
            RowsO own H' rs n (fun _ _ => 0) ∧ TupsAt H' ts E ∧ E.length ≤ 7 + t ∧ (n = 1 → (0, 0) ∈ E) ∧ (∀ e ∈ E, e.1 < n ∧ e.2 < n) ∧ ∀ a b, a < n → b < n → Reach (Sy E) a b)
          ⟨l8, own7, ts, E, _, _, _, rfl, q8, h8, oD7, oF7, ro8, tp8, by omega, e17, lt7, con7⟩ ?_ ?_
        · clear h8 ro8 tp8 oD7 oF7 e17 lt7 con7 q8
          rintro t σ H9 ht ⟨l9, own9, ts, E, y5, y7, y8, rfl, q9, h9, oD9, oF9, ro9, tp9, el9, e19, lt9, con9⟩
          refine ⟨_, rfl, _, rfl, w, l9, _, rfl, by omega, by omega, h9.W, fun HA dA lA' dA0 dA1 kA' WA hlA => ?_⟩
          have hA := h9.pick kA' WA hlA
          have qA := up (c := w) q9 hlA h9.kp WA
          have ktA : ∀ t xs, H9 t = some (.tup xs) → HA t = some (.tup xs) := fun t xs e => kA' _ _ (h9.W.notTup e) e
          obtain ⟨x, rfl⟩ : ∃ x : Nat, dA = (x : Int) := ⟨dA.toNat, by omega⟩
          refine ⟨_, rfl, .inl ⟨rfl, _, .of (hA.own _ _ oF9).1⟩, _, rfl, _, rfl, _, rfl, w, lA', _, rfl, by omega, by omega, hA.W, fun HB dB lB dB0 dB1 kB WB hlB => ⟨sz63 (by show 2 ≤ 1000; decide), fun p np => ?_⟩⟩
          have hB := hA.pick kB WB hlB
          have qB := up (c := w) qA hlB hA.kp WB
          have ktB : ∀ t xs, HA t = some (.tup xs) → HB t = some (.tup xs) := fun t xs e => kB _ _ (hA.W.notTup e) e
          obtain ⟨y, rfl⟩ : ∃ y : Nat, dB = (y : Int) := ⟨dB.toNat, by omega⟩
          have hC := hB.new (o := .tup [.int (x : Nat), .int (y : Nat)]) np
          have sC : Same HB (upd HB p (.tup [.int (x : Nat), .int (y : Nat)])) := same_new np
          have eC : (upd HB p (.tup [.int (x : Nat), .int (y : Nat)])) p = some (.tup [.int (x : Nat), .int (y : Nat)]) := upd_same
          have roC := ((ro9.mono (own' := own9) ktA fun r _ => rfl).mono (own' := own9) ktB fun r _ => rfl).mono (own' := own9) (fun t xs e => sC _ _ e) fun r _ => rfl
          have tpC := ((tp9.mono ktA).mono ktB).mono fun t xs e => sC _ _ e
          generalize upd HB p (.tup [.int (x : Nat), .int (y : Nat)]) = HC at hC sC eC roC tpC ⊢
          have tlC := tpC.1
          refine ⟨fA, _, _, rfl, rfl, (hC.own _ _ oF9).1, by rw [List.length_map]; exact sz63' (by omega), ?_⟩
          have hE := hC.set (ys := ts.map V.ref ++ [.ref p]) oF9
          have ktE := tup_frame (o := .lst (ts.map V.ref ++ [.ref p])) (hC.nt oF9)
          refine ⟨lB, _, ts ++ [p], E ++ [(x, y)], _, _, _, rfl, qB, hE, ?_, ?_, roC.mono ktE fun r hr => setO_ne (frs r hr), (tpC.mono ktE).snoc (ktE _ _ eC), by rw [List.length_append]; show E.length + 1 ≤ _; omega, fun z => List.mem_append_left _ (e19 z), fun e he => ?_, fun a b ha hb => sy_app (con9 a b ha hb)⟩
          · rw [setO_ne fD]
            exact oD9
          · rw [setO_same, List.map_append]
            rfl
          · rcases List.mem_append.mp he with he | he
            · exact lt9 e he
            · rw [List.mem_singleton.mp he]
              exact ⟨by omega, by omega⟩
        · clear h8 ro8 tp8 oD7 oF7 e17 lt7 con7 q8
          rintro σ H9 ⟨l9, own9, ts, E, y5, y7, y8, rfl, q9, h9, oD9, oF9, ro9, tp9, el9, e19, lt9, con9⟩
          -- weights on them
          refine ⟨_, rfl, fA, rfl, ⟨_, .of (h9.own _ _ oF9).1⟩, for_list (K := K) (a := fA) (xs := ts.map V.ref)
            (fun i σ H' => ∃ l' own R y5 y7 y8, σ = [some (.ref w), some (.int (n : Nat)), some (.ref lA), some (.ref kA), some (.ref D), y5, some (.ref fA), y7, y8, none] ∧ (l' = l ∨ H l' = none) ∧ OwnH H H' w l' own ∧ own D = some (rs.map V.ref) ∧ own fA = some (ts.map V.ref) ∧
              RowsO own H' rs n R ∧ TupsAt H' ts E ∧ (∀ i j, WtQ (R i j)) ∧ (∀ i j, R i j = R j i) ∧ ∀ (k : Nat) e, k < i → E[k]? = some e → 0 < R e.1 e.2)
            ⟨l9, own9, fun _ _ => 0, _, _, _, rfl, q9, h9, oD9, oF9, ro9, tp9, fun _ _ => wt_nil, fun _ _ => rfl, fun k e hk => absurd hk (Nat.not_lt_zero k)⟩ (fun i σ H' _ ⟨_, _, _, _, _, _, _, _, h, _, oF, _⟩ => .of (h.own _ _ oF).1) ?_ ?_⟩
          · clear h9 oD9 oF9 ro9 q9
            rintro i x σ HA hi ⟨lA', ownA, R, y5, y7, y8, rfl, qA, hA, oDA, oFA, roA, tpA, wtA, syA, psA⟩
            obtain ⟨t, ht, rfl⟩ := map_some hi
            have tl := tpA.1
            have hiE : i < E.length := by
              have := (List.getElem?_eq_some_iff.mp ht).1
              omega
            have he : E[i]? = some E[i] := List.getElem?_eq_getElem hiE
            obtain ⟨lt1, lt2⟩ := lt9 _ (List.mem_of_getElem? he)
            generalize E[i] = e at he lt1 lt2
            have et := tpA.2 i t e ht he
            refine ⟨t, _, rfl, .of et, rfl, _, _, rfl, _, _, rfl, rfl, ?_⟩
            refine ⟨_, rfl, w, lA', rfl, hA.W, fun HB lB p qq q0 qw kB WB hlB pw ep => ?_⟩
            have hB := hA.pick kB WB hlB
            have qB := up (c := w) qA hlB hA.kp WB
            have ktB : ∀ t xs, HA t = some (.tup xs) → HB t = some (.tup xs) := fun t xs e => kB _ _ (hA.W.notTup e) e
            have roB := roA.mono (own' := ownA) ktB fun r _ => rfl
            have tpB := tpA.mono ktB
            obtain ⟨r, xs, er, oR, xl, xa⟩ := roB.at lt1
            have rm := List.mem_of_getElem? er
            refine ⟨_, rfl, _, rfl, D, _, (e.1 : Int), .ref r, rfl, rfl, .of (hB.own _ _ oDA).1, atI_nat (by rw [List.getElem?_map, er]; rfl), _, rfl, r, xs, (e.2 : Int), e.2, rfl, rfl, (hB.own _ _ oR).1, ixNat (by omega), ?_⟩
            have fp : FrA HB (.ref p) qq := ⟨p, rfl, ep⟩
            have hC := hB.set (ys := xs.set e.2 (.ref p)) oR
            have ktC := tup_frame (o := .lst (xs.set e.2 (.ref p))) (hB.nt oR)
            have roC := roB.set (b := e.2) hB er oR fp
            have tpC := tpB.mono ktC
            have rD : r ≠ D := (rsn r rm).2.2
            have oDC : setO ownA r (xs.set e.2 (.ref p)) D = some (rs.map V.ref) := by
              rw [setO_ne (Ne.symm rD)]
              exact oDA
            have oFC : setO ownA r (xs.set e.2 (.ref p)) fA = some (ts.map V.ref) := by
              rw [setO_ne (Ne.symm (frs r rm))]
              exact oFA
            generalize upd HB r (.lst (xs.set e.2 (.ref p))) = HC at hC roC tpC ⊢
            generalize setO ownA r (xs.set e.2 (.ref p)) = ownC at hC roC oDC oFC
            clear hB roB tpB ktB ktC oR xa hA roA tpA oDA oFA kB WB hlB
            -- and the other way round
            obtain ⟨r1, xs1, er1, oR1, xl1, xa1⟩ := roC.at lt1
            obtain ⟨r2, xs2, er2, oR2, xl2, xa2⟩ := roC.at lt2
            have rm2 := List.mem_of_getElem? er2
            have ev : xs1[e.2]? = some (xs1[e.2]'(by omega)) := List.getElem?_eq_getElem (by omega)
            have fv := xa1 e.2 _ ev
            rw [if_pos ⟨rfl, rfl⟩] at fv
            refine ⟨_, rfl, _, rfl, D, _, (e.1 : Int), .ref r1, rfl, rfl, .of (hC.own _ _ oDC).1, atI_nat (by rw [List.getElem?_map, er1]; rfl), _, rfl, r1, xs1, (e.2 : Int), _, rfl, rfl, .of (hC.own _ _ oR1).1, atI_nat ev, ?_⟩
            refine ⟨_, rfl, _, rfl, D, _, (e.2 : Int), .ref r2, rfl, rfl, .of (hC.own _ _ oDC).1, atI_nat (by rw [List.getElem?_map, er2]; rfl), _, rfl, r2, xs2, (e.1 : Int), e.1, rfl, rfl, (hC.own _ _ oR2).1, ixNat (by omega), ?_⟩
            have hE := hC.set (ys := xs2.set e.1 (xs1[e.2]'(by omega))) oR2
            have ktE := tup_frame (o := .lst (xs2.set e.1 (xs1[e.2]'(by omega)))) (hC.nt oR2)
            refine ⟨lB, _, _, _, _, _, rfl, qB, hE, ?_, ?_, roC.set (b := e.1) hC er2 oR2 fv, tpC.mono ktE, fun i j => ?_, fun i j => ?_, fun k f hk hf => ?_⟩
            · rw [setO_ne (Ne.symm (rsn r2 rm2).2.2)]
              exact oDC
            · rw [setO_ne (Ne.symm (frs r2 rm2))]
              exact oFC
            · try dsimp only
              split
              · exact qw
              · split
                · exact qw
                · exact wtA i j
            · have := syA i j
              try dsimp only
              by_cases c1 : i = e.2 ∧ j = e.1
              · rw [if_pos c1]
                by_cases c2 : j = e.2 ∧ i = e.1
                · rw [if_pos c2]
                · rw [if_neg c2, if_pos ⟨c1.2, c1.1⟩]
              · rw [if_neg c1]
                by_cases c3 : i = e.1 ∧ j = e.2
                · rw [if_pos c3, if_pos ⟨c3.2, c3.1⟩]
                · rw [if_neg c3, if_neg fun z => c3 ⟨z.2, z.1⟩, if_neg fun z => c1 ⟨z.2, z.1⟩]
                  exact this
            · try dsimp only
              split
              · exact q0
              · split
                · exact q0
                · rename_i c1 c2
                  by_cases ck : k = i
                  · subst ck
                    rw [he] at hf
                    obtain rfl := Option.some.inj hf
                    exact absurd ⟨rfl, rfl⟩ c2
                  · exact psA k f (by omega) hf
          · clear h9 oD9 oF9 ro9 q9 tp9
            rintro σ HA ⟨lA', ownA, R, y5, y7, y8, rfl, qA, hA, oDA, oFA, roA, tpA, wtA, syA, psA⟩
            have tl := tpA.1
            have pE : ∀ a b, (a, b) ∈ E → 0 < R a b := fun a b h => by
              obtain ⟨k, hk⟩ := List.mem_iff_getElem?.mp h
              have := (List.getElem?_eq_some_iff.mp hk).1
              exact psA k (a, b) (by rw [List.length_map]; omega) hk
            have link : ∀ x y, Sy E x y → x < n ∧ y < n ∧ 0 < R x y := fun x y h => by
              rcases h with h | h
              · exact ⟨(lt9 _ h).1, (lt9 _ h).2, pE _ _ h⟩
              · refine ⟨(lt9 _ h).2, (lt9 _ h).1, ?_⟩
                rw [syA]
                exact pE _ _ h
            have bn : Bnds n R := by
              refine ⟨wtA, syA, fun a b ha hb => (con9 a b ha hb).mono fun x y e => link x y e, fun i hi => ?_⟩
              by_cases c : n = 1
              · refine ⟨0, by omega, ?_⟩
                have : i = 0 := by omega
                rw [this]
                exact pE _ _ (e19 c)
              · obtain ⟨b, hb, ne⟩ : ∃ b, b < n ∧ i ≠ b := by
                  by_cases z : i = 0
                  · exact ⟨1, by omega, by omega⟩
                  · exact ⟨0, by omega, by omega⟩
                obtain ⟨x, _, e⟩ := reach_first (con9 i b hi hb) ne
                exact ⟨x, (link i x e).2.1, (link i x e).2.2⟩
            have hwn : HA w ≠ none := by
              obtain ⟨_, _, _, e, _⟩ := hA.W
              rw [e]
              exact fun z => nomatch z
            have hlen := roA.len
            refine ⟨_, rfl, D, rfl, ⟨_, .of (hA.own _ _ oDA).1⟩, fun D2 nD2 => ?_⟩
            refine lc_rel (walk_list (K := K) (a := D) (xs := rs.map V.ref)) No (fun H' i y => Dq (fun a => At w a ∨ a = D2) H' y (rowD ((List.range n).map fun j => R i j)))
              (fun Ha Hb i v k r => r.keep (k.mono fun b z => z.elim (fun z => z.elim) .inr)) nD2 (fun _ z => z.elim) (by rw [List.length_map]; omega) (fun H' k' => .of (k' _ _ id (hA.own _ _ oDA).1)) ?_ ?_
            · rintro i x HB _ Q' hi kB nDB ⟨rfl, hx⟩ q'
              obtain ⟨r, hr, rfl⟩ := map_some hx
              have sB := no_same kB
              obtain ⟨xs, oR, xl, xa⟩ := roA.row i r hr
              refine ⟨rfl, _, rfl, r, xs, rfl, .inl ⟨.of (sB _ _ (hA.own _ _ oR).1), fun t nt => ?_⟩⟩
              refine q' _ _ (Kp.new nt) (.tup (fun z => ?_) upd_same ?_)
              · rcases z with z | z
                · rw [show t = w from z] at nt
                  exact hwn (sB.free nt)
                · rw [z] at nt
                  exact nDB nt
              · refine dqAll_of (by rw [List.length_map, List.length_map, List.length_range, xl]) fun j v ev => ?_
                have hj : j < n := by
                  have := (List.getElem?_eq_some_iff.mp ev).1
                  omega
                obtain ⟨p, rfl, ep⟩ := xa j v ev
                refine ⟨_, by rw [List.getElem?_map, List.getElem?_map, List.getElem?_range hj]; rfl, fr_dq (fun z => ?_) (same_new nt _ _ (sB _ _ ep))⟩
                rcases z with z | z
                · exact hA.W.notTup ep z
                · rw [z, nD2] at ep
                  cases ep
            · rintro HB acc kB eDB hla ha
              have sB := no_same kB
              rw [List.length_map, hlen] at hla
              refine ⟨D2, acc, rfl, .inl ⟨.of eDB, fun t nt => ?_⟩⟩
              have WB := well_sameS hA.W sB
              refine q _ lA' _ R ((hA.kp.trans (Kp.same sB)).trans (Kp.new nt)) (WB.new nt) qA (.tup (WB.ne nt).1 upd_same ?_) bn
              have all : DqAll (fun a => At w a ∨ a = D2) HB acc ((tabF n R).map rowD) := dqAll_of (by unfold tabF; rw [List.length_map, List.length_map, List.length_range, hla]) fun i v e => by
                have hi : i < n := by
                  have := (List.getElem?_eq_some_iff.mp e).1
                  omega
                exact ⟨_, by unfold tabF; rw [List.getElem?_map, List.getElem?_map, List.getElem?_range hi]; rfl, ha i v e⟩
              exact (all.keep (Kp.new nt)).weak fun b z => .inl z
    · intro N' hN
      refine ⟨_, rfl, rfl, _, rfl, ite2 (fun c => ?_) (fun c => ?_)⟩
      · have cn : n = 1 := by
          have := V.int.inj (of_decide_eq_true c)
          omega
        refine ⟨sz63 (by show 2 ≤ 1000; decide), fun t nt => ⟨sz63 (by show 1 ≤ 1000; decide), fun fA nf => hN _ _ ?_⟩⟩
        have h6 := h5.new (o := .tup [.int 0, .int 0]) nt
        have s6 : Same H5 (upd H5 t (.tup [.int 0, .int 0])) := same_new nt
        have e6 : (upd H5 t (.tup [.int 0, .int 0])) t = some (.tup [.int 0, .int 0]) := upd_same
        have ro6 := ro5.mono (own' := own5) (fun t xs e => s6 _ _ e) fun r _ => rfl
        generalize upd H5 t (.tup [.int 0, .int 0]) = H6 at h6 s6 e6 ro6 nf ⊢
        have s7 : Same H6 (upd H6 fA (.lst [.ref t])) := same_new nf
        refine ⟨fA, setO own5 fA [.ref t], [t], [(0, 0)], rfl, h6.add nf, ?_, ?_, ?_, setO_same, ro6.mono (fun t xs e => s7 _ _ e) fun r hr => setO_ne ?_, ⟨rfl, fun j t' e' g1 g2 => ?_⟩, ⟨ti5.pm, fun a ha b hb => sy_app (E := []) (ti5.con a ha b hb), fun e he => ?_⟩, by decide, fun _ => by simp, h6.ne nf oL5, h6.ne nf oK5, h6.ne nf oD5, fun r hr => ?_⟩
        · rw [setO_ne (h6.ne nf oL5)]
          exact oL5
        · rw [setO_ne (h6.ne nf oK5)]
          exact oK5
        · rw [setO_ne (h6.ne nf oD5)]
          exact oD5
        · obtain ⟨j, hj⟩ := List.mem_iff_getElem?.mp hr
          obtain ⟨xs, g1, _⟩ := ro5.row j r hj
          exact h6.ne nf g1
        · match j, g1, g2 with
          | 0, g1, g2 =>
            obtain rfl := Option.some.inj g1
            obtain rfl := Option.some.inj g2
            exact s7 _ _ e6
          | j + 1, g1, _ => simp at g1
        · rw [List.mem_singleton.mp he]
          exact ⟨by omega, by omega⟩
        · obtain ⟨j, hj⟩ := List.mem_iff_getElem?.mp hr
          obtain ⟨xs, g1, _⟩ := ro5.row j r hj
          exact h6.ne nf g1
      · have cn : n ≠ 1 := fun z => c (decide_eq_true (by rw [z]; rfl))
        refine ⟨Nat.zero_le _, fun fA nf => hN _ _ ?_⟩
        have s7 : Same H5 (upd H5 fA (.lst [])) := same_new nf
        refine ⟨fA, setO own5 fA [], [], [], rfl, h5.add nf, ?_, ?_, ?_, setO_same, ro5.mono (fun t xs e => s7 _ _ e) fun r hr => setO_ne ?_, ⟨rfl, fun j t' e' g1 g2 => by simp at g1⟩, ti5, by decide, fun z => absurd z cn, h5.ne nf oL5, h5.ne nf oK5, h5.ne nf oD5, fun r hr => ?_⟩
        · rw [setO_ne (h5.ne nf oL5)]
          exact oL5
        · rw [setO_ne (h5.ne nf oK5)]
          exact oK5
        · rw [setO_ne (h5.ne nf oD5)]
          exact oD5
        · obtain ⟨j, hj⟩ := List.mem_iff_getElem?.mp hr
          obtain ⟨xs, g1, _⟩ := ro5.row j r hj
          exact h5.ne nf g1
        · obtain ⟨j, hj⟩ := List.mem_iff_getElem?.mp hr
          obtain ⟨xs, g1, _⟩ := ro5.row j r hj
          exact h5.ne nf g1
end
end Kx
set_option exponentiation.threshold 4000
/-! The walk of drawn weights. -/
namespace Kx
open PySem PySem.Spec PyProof.Rows L2 Bw
/-- the rows, made whole -/
def dnP (n : Nat) (R : Nat → Nat → Rat) (i : Nat) : Nat := pP n fun j => (R i j).den
def scN (n : Nat) (R : Nat → Nat → Rat) (i j : Nat) : Nat := (R i j).num.toNat * (dnP n R i / (R i j).den)
def scM (n : Nat) (R : Nat → Nat → Rat) : List (List Nat) := (List.range n).map fun i => (List.range n).map fun j => scN n R i j
theorem fQ_num {q : Rat} (h : 0 ≤ q) : fQ q.num.toNat = q * fQ q.den := by
  have h0 := Bq.num_nonneg.mpr h
  have e1 : ((q.num.toNat : Nat) : Int) = q.num := by omega
  have e2 : fQ q.num.toNat = ((q.num : Int) : Rat) := by
    unfold fQ
    rw [← e1, Rat.intCast_natCast]
    congr 1
  have e3 := Bq.num_over q
  rw [Rat.divInt_eq_div] at e3
  have d0 := fQ_ne (show 0 < q.den from q.den_pos)
  have e4 : (((q.den : Nat) : Int) : Rat) = fQ q.den := Rat.intCast_natCast _
  rw [e4] at e3
  rw [e2]
  generalize fQ q.den = d at *
  generalize ((q.num : Int) : Rat) = y at *
  rw [← e3]
  grind
section
variable {n : Nat} {R : Nat → Nat → Rat}
theorem dnP_pos (i : Nat) : 0 < dnP n R i := pP_pos fun j _ => (R i j).den_pos
theorem scN_eq (h : Bnds n R) {i j : Nat} (hj : j < n) : fQ (scN n R i j) = R i j * fQ (dnP n R i) := by
  obtain ⟨k, hk⟩ := pP_dvd (f := fun j => (R i j).den) hj
  have hk' : dnP n R i = (R i j).den * k := hk
  unfold scN
  rw [hk', Nat.mul_div_cancel_left _ (R i j).den_pos, fQ_mul, fQ_mul, fQ_num (h.wt i j).1]
  generalize fQ (R i j).den = a
  generalize fQ k = b
  grind
theorem scM_at {i j : Nat} (hi : i < n) (hj : j < n) : mf (scM n R) i j = scN n R i j := by
  have e : (scM n R)[i]? = some ((List.range n).map fun j => scN n R i j) := by
    unfold scM
    rw [List.getElem?_map, List.getElem?_range hi]
    rfl
  rw [mf_row e]
  show ((List.range n).map fun j => scN n R i j).getD j 0 = _
  rw [List.getD_eq_getElem?_getD, List.getElem?_map, List.getElem?_range hj]
  rfl
theorem sc_sum (h : Bnds n R) {i : Nat} (hi : i < n) : fQ (sN n (mf (scM n R) i)) = Bq.sumQ ((List.range n).map (R i)) * fQ (dnP n R i) := by
  rw [← sumQ_fQ]
  have e : ((List.range n).map fun j => fQ (mf (scM n R) i j)) = ((List.range n).map (R i)).map fun q => fQ (dnP n R i) * q := by
    rw [List.map_map]
    refine List.map_congr_left fun j hj => ?_
    show fQ (mf (scM n R) i j) = fQ (dnP n R i) * R i j
    rw [scM_at hi (List.mem_range.mp hj), scN_eq h (List.mem_range.mp hj), Rat.mul_comm]
  rw [e, sumQ_mulL, Rat.mul_comm]
theorem row_posR (h : Bnds n R) {i : Nat} (hi : i < n) : 0 < Bq.sumQ ((List.range n).map (R i)) := by
  obtain ⟨j, hj, hp⟩ := h.row i hi
  exact sum_pos (fun q hq => by
    obtain ⟨j, _, rfl⟩ := List.mem_map.mp hq
    exact (h.wt i j).1) ⟨R i j, List.mem_map.mpr ⟨j, List.mem_range.mpr hj, rfl⟩, hp⟩
theorem sc_ch (h : Bnds n R) {i j : Nat} (hi : i < n) (hj : j < n) : chQ n (mf (scM n R)) i j = R i j / Bq.sumQ ((List.range n).map (R i)) := by
  unfold chQ
  rw [sc_sum h hi, scM_at hi hj, scN_eq h hj]
  have z1 := fQ_ne (dnP_pos (n := n) (R := R) i)
  have z2 : Bq.sumQ ((List.range n).map (R i)) ≠ 0 := by
    have := row_posR h hi
    grind
  generalize fQ (dnP n R i) = a at *
  generalize Bq.sumQ ((List.range n).map (R i)) = b at *
  grind
theorem sc_pos (h : Bnds n R) {i j : Nat} (hj : j < n) (hp : 0 < R i j) : 0 < scN n R i j := by
  have e := scN_eq h (i := i) hj
  have z1 := fQ_pos (dnP_pos (n := n) (R := R) i)
  have z2 := Rat.mul_pos hp z1
  rw [← e] at z2
  by_cases c : 0 < scN n R i j
  · exact c
  · have : scN n R i j = 0 := by omega
    rw [this] at z2
    exact absurd z2 (by decide)
theorem sc_wk (h : Bnds n R) (n1 : 1 ≤ n) (n6 : n ≤ 6) : WkB 56 n (scM n R) := by
  have dl : ∀ i, dnP n R i ≤ 2 ^ 36 := fun i => by
    have h1 := pP_lt (f := fun j => (R i j).den) (b := 6) (n := n) fun j _ => Nat.lt_of_le_of_lt (h.wt i j).2.2 (by decide)
    exact Nat.le_trans h1 (Nat.pow_le_pow_right (by decide) (by omega))
  refine ⟨n1, n6, by rw [sN_cst]; omega, by unfold scM; simp, fun row hr => ?_, fun i j hi hj => ?_, fun a b ha hb => (h.con a b ha hb).mono fun x y e => ⟨e.1, e.2.1, by rw [scM_at e.1 e.2.1]; exact sc_pos h e.2.1 e.2.2⟩, fun i hi => ?_⟩
  · unfold scM at hr
    obtain ⟨i, _, rfl⟩ := List.mem_map.mp hr
    simp
  · rw [scM_at hi hj]
    unfold scN
    have h1 := (h.wt i j).2.1
    have h2 : dnP n R i / (R i j).den ≤ 2 ^ 36 := Nat.le_trans (Nat.div_le_self _ _) (dl i)
    have h3 : (R i j).num.toNat < 2 ^ 20 := by omega
    have h4 : (R i j).num.toNat * (dnP n R i / (R i j).den) ≤ (R i j).num.toNat * 2 ^ 36 := Nat.mul_le_mul_left _ h2
    have h5 : (R i j).num.toNat * 2 ^ 36 < 2 ^ 20 * 2 ^ 36 := Nat.mul_lt_mul_of_pos_right h3 (by decide)
    have h6 : (2 : Nat) ^ 20 * 2 ^ 36 = 2 ^ 56 := by rw [← Nat.pow_add]
    omega
  · obtain ⟨j, hj, hp⟩ := h.row i hi
    exact sN_pos hj (by rw [scM_at hi hj]; exact sc_pos h hj hp)
theorem wt_sz {q : Rat} (h : WtQ q) : Bq.Sz 20 q := by
  have h0 := Bq.num_nonneg.mpr h.1
  refine ⟨?_, Nat.lt_of_le_of_lt h.2.2 (by decide)⟩
  have := h.2.1
  omega
end
section
variable {P : Program} {w : World} {K : PySem.W.Frag} {mg : Str → Option Value} {base : Heap}
/-- the walk of weights -/
def spWalkBy : Sp := fun vs H Q _ => ∃ (W : Addr → Prop) (v : V) (n : Nat) (R : Nat → Nat → Rat), vs = [v] ∧ Dq W H v (tabD (tabF n R)) ∧ 1 ≤ n ∧ n ≤ 6 ∧ Bnds n R ∧
  ∀ v' H', Same H H' → Dq (Old H) H' v' (tabD (walkM (scM n R))) → Q v' H'
theorem ok_lwalkby {f : Addr} {fd : FuncData} (F : Fun K "_law_walk_by" "_law_walk_by" s_law_walk_by f fd) (M : Mb mg) (Dlaw_over_sum : Df P w K mg base 4 "_law_over_sum" ["row"] (spOverSumT K)) : FnOk P w K mg base CX0 5 f fd ["bonds"] spWalkBy := by
  refine F.ok c_law_walk_by (fun vs H Q E h => ?_) (fun cdv A outer s H vs Q E hr h => ?_)
  · obtain ⟨_, v, n, R, rfl, _⟩ := h
    rfl
  · obtain ⟨W, v, n, R, rfl, hd, n1, n6, bn, q⟩ := h
    refine ⟨_, (pss_one (ps_ret (pe_callTy call_tuple_of (by rfl) M.tuple (by decide +kernel) (pa_cons (pe_lc (own := [("row", 1)]) rfl c_law_walk_by.nd (pi_tup (pv 0)) (blkOk_by (own := [("row", 1)]) (N := n_law_walk_by) (sc := defScope s_law_walk_by) (by decide +kernel)) (fun _ _ _ _ _ => (pg_name (i := 1) c_law_walk_by.nd rfl (.inl rfl))) (fun _ _ _ _ _ => pts_nil) (fun _ _ _ _ _ => (pe_call Dlaw_over_sum.G (hr.mono (by first | decide | omega)) rfl Dlaw_over_sum.g Dlaw_over_sum.kp Dlaw_over_sum.b .nil pass0 (pa_cons (pv 1) pa_nil)))) pa_nil)))), ?_⟩
    obtain ⟨a, xs, rfl, na, ea, el⟩ := hd.tupI
    unfold tabF at el
    have xl : xs.length = n := by
      have := el.length
      simpa using this
    have wk := sc_wk bn n1 n6
    have eb : walkM (scM n R) = (List.range n).map fun i => (List.range n).map fun j => R i j / Bq.sumQ ((List.range n).map (R i)) := by
      rw [wk.tab]
      refine List.map_congr_left fun i hi => List.map_congr_left fun j hj => ?_
      exact sc_ch bn (List.mem_range.mp hi) (List.mem_range.mp hj)
    rw [eb] at q
    refine ⟨_, rfl, a, rfl, ⟨xs, .of ea⟩, fun D nD => lc_rel (walk_tup (K := K) (a := a) (xs := xs)) No (fun H' i y => Dq (fun b => Old H b ∨ b = D) H' y (rowD ((List.range n).map fun j => R i j / Bq.sumQ ((List.range n).map (R i)))))
      (fun H H' i v k r => r.keep (k.mono fun b z => z.elim (fun z => z.elim) .inr)) nD (fun _ z => z.elim) (by omega) (fun H' k' => .of (no_same k' _ _ ea)) ?_ ?_⟩
    · rintro i x H2 _ Q' hi k2 nD2 ⟨rfl, hx⟩ q'
      have s2 := no_same k2
      obtain ⟨hin, dy⟩ := tab_at el hx
      obtain ⟨b, ys, rfl, nb, eb2, er⟩ := (dy.keep (Kp.same s2)).tupI
      refine ⟨rfl, _, rfl, b, ys, _, 20, rfl, .of eb2, dq_row er, fun p hp => ?_, by rw [List.length_map, List.length_range]; omega, by rw [List.length_map, List.length_range]; omega, row_posR bn hin, fun v3 H3 s3 d3 => q' _ _ (Kp.same s3) ?_⟩
      · obtain ⟨j, _, rfl⟩ := List.mem_map.mp hp
        exact wt_sz (bn.wt i j)
      · rw [List.map_map] at d3
        refine d3.weak fun c z => ?_
        rcases z with z | z
        · exact fun e => z (s2.free e)
        · rw [z]
          exact nD2
    · rintro H2 acc k2 eD hla ha
      have s2 := no_same k2
      refine ⟨D, acc, rfl, .inl ⟨.of eD, fun t nt => q _ _ (s2.trans (same_new nt)) (.tup (fun z => z (s2.free nt)) upd_same ?_)⟩⟩
      have all : DqAll (fun b => Old H b ∨ b = D) H2 acc (((List.range n).map fun i => (List.range n).map fun j => R i j / Bq.sumQ ((List.range n).map (R i))).map rowD) := dqAll_of (by rw [List.length_map, List.length_map, List.length_range]; omega) fun i v e => by
        have hi : i < n := by
          have := (List.getElem?_eq_some_iff.mp e).1
          omega
        exact ⟨_, by rw [List.getElem?_map, List.getElem?_map, List.getElem?_range hi]; rfl, ha i v e⟩
      exact (all.keep (Kp.new nt)).weak fun b z => .inl z
end
end Kx
set_option exponentiation.threshold 10000
/-! Rows reduced, with columns more; squares solved. -/
namespace Kx
open PySem PySem.Spec PyProof.Rows L2 Bw
section
variable {P : Program} {w : World} {K : PySem.W.Frag} {mg : Str → Option Value} {base : Heap}
/-- a good square with columns more, all columns of the square cleared, with its determinant -/
def spReducedR (K : PySem.W.Frag) : Sp := fun vs H Q _ => ∃ (a : Addr) (rs : List Addr) (n m b : Nat) (E : Nat → Nat → Int), vs = [.ref a] ∧ MatZ H a rs n m E ∧ n ≤ m ∧ m ≤ 20 ∧ n ≤ 6 ∧ 0 < b ∧ b ≤ 1000 ∧ (∀ i j, i < n → j < m → (E i j).natAbs < 2 ^ b) ∧ Gd n E ∧
  ∀ p a' rs' H', Same H H' → H p = none → H' p = some (.tup [.ref a', .int (det n E)]) → MatZ H' a' rs' n m (gj E n) → Q (.ref p) H'
theorem ok_reducedR {f : Addr} {fd : FuncData} (F : Fun K "reduced" "reduced" sreduced f fd) (M : Mb mg) (Dpivot_from : Df P w K mg base 1 "pivot_from" ["rows", "at"] (spPivot K)) (Dcleared : Df P w K mg base 1 "cleared" ["rows", "at", "divisor"] (spCleared K)) :
    FnOk P w K mg base CX0 2 f fd ["rows"] (spReducedR K) := by
  refine F.ok creduced (fun vs H Q E h => ?_) (fun cdv A outer s H vs Q X hr h => ?_)
  · obtain ⟨a, rs, n, m, b, E, rfl, _⟩ := h
    rfl
  · obtain ⟨a, rs, n, m, b, E, rfl, hm, nm, m20, n6, b0, b9, hb, g, q⟩ := h
    refine ⟨_, (pss_cons (ps_par (i := 1) (j := 2) (by rfl) creduced.nd rfl rfl (by decide) rfl rfl (pa_cons (pe_callTy call_list_of (by rfl) M.list (by decide +kernel) (pa_cons (pv 0) pa_nil)) (pa_cons pe_int pa_nil)) (by rfl))
 (pss_cons (ps_for PassesOwn.never rfl (pi_range1 (by rfl) M.range (pa_cons (pe_callB call_len_seq (by rfl) M.len (by decide +kernel) (pa_cons (pv 0) pa_nil)) pa_nil)) (pg_name (i := 3) creduced.nd rfl (.inl rfl))
 (pss_cons (ps_set (i := 4) creduced.nd rfl (.inl rfl) (pe_call Dpivot_from.G (hr.mono (by first | decide | omega)) rfl Dpivot_from.g Dpivot_from.kp Dpivot_from.b .nil pass0 (pa_cons (pv 1) (pa_cons (pv 3) pa_nil))))
 (pss_cons (ps_if (pt_cmpR op_isN (pv 4) pe_non (nomark _))
 (pss_one (ps_ret (pe_tup (pa_cons (pv 1) (pa_cons pe_int pa_nil)))))
 pss_nil)
 (pss_cons (ps_if (pt_cmpR op_ne (pv 4) (pv 3) (nomark _))
 (pss_one ps_never)
 pss_nil)
 (pss_one (ps_par (i := 1) (j := 2) (by rfl) creduced.nd rfl rfl (by decide) rfl rfl (pa_cons (pe_call Dcleared.G (hr.mono (by first | decide | omega)) rfl Dcleared.g Dcleared.kp Dcleared.b .nil pass0 (pa_cons (pv 1) (pa_cons (pv 3) (pa_cons (pv 2) pa_nil)))) (pa_cons (pe_ix ix_list (pe_ix ix_list (pv 1) (pv 3) (fun _ _ => rfl)) (pv 3) (fun _ _ => rfl)) pa_nil)) (by rfl)))))))
 (pss_one (ps_ret (pe_tup (pa_cons (pv 1) (pa_cons (pv 2) pa_nil))))))), ?_⟩
    refine ⟨_, rfl, a, _, rfl, .inl (.of hm.eA), fun a1 n1 => ?_⟩
    refine ⟨_, _, rfl, ?_⟩
    have s1 : Same H (upd H a1 (.lst (rs.map V.ref))) := same_new n1
    have m1 : MatZ (upd H a1 (.lst (rs.map V.ref))) a1 rs n m E := ⟨upd_same, hm.len, fun i r e => s1 _ _ (hm.row i r e)⟩
    generalize upd H a1 (.lst (rs.map V.ref)) = H1 at s1 m1 ⊢
    refine ⟨_, rfl, a, _, rfl, .inl (.of (s1 _ _ hm.eA)), _, rfl, by rw [List.length_map, hm.len]; omega, by rw [List.length_map, hm.len]; omega, ?_⟩
    have el : (((rs.map V.ref).length : Nat) : Int).toNat = n := by
      rw [List.length_map, hm.len]
      rfl
    rw [el]
    refine for_range (lo := 0) (n := n) (fun t σ H' => ∃ a' rs' E' y3 y4, σ = [some (.ref a), some (.ref a'), some (.int (bq E t)), y3, y4, none] ∧ Same H H' ∧ MatZ H' a' rs' n m E' ∧
        (∀ i j, i < n → j < m → (E' i j).natAbs < 2 ^ bR b t) ∧ (bq E t).natAbs < 2 ^ bR b t ∧ E' = gj E t)
      ⟨a1, rs, E, none, none, rfl, s1, m1, hb, ?_, rfl⟩ ?_ ?_
    · show (1 : Int).natAbs < 2 ^ b
      exact Nat.lt_of_lt_of_le (show 1 < 2 ^ 1 by decide) (Nat.pow_le_pow_right (by decide) b0)
    · rintro t σ H2 ht ⟨a2, rs2, E2, y3, y4, rfl, s2, m2, hb2, hq2, he2⟩
      have tl : t < rs2.length := by
        rw [m2.len]
        exact ht
      have e1 : rs2[t]? = some rs2[t] := List.getElem?_eq_getElem tl
      generalize rs2[t] = lt at e1
      have eL := m2.row t lt e1
      have gp := g.pivots t (by omega)
      have hq9 : (bq E t).natAbs < 2 ^ 9000 := by
        have h1 := bq_lt g (show t ≤ n by omega) (fun i j hi hj => hb i j hi (by omega))
        have h2 : t * b ≤ 6 * 1000 := Nat.mul_le_mul (by omega) b9
        exact Nat.lt_of_lt_of_le h1 (Nat.pow_le_pow_right (by decide) (by omega))
      have pv : 0 < bb E t 0 0 := by
        have h1 := gp.1
        have e : n - t = (n - t - 1) + 1 := by omega
        rw [e] at h1
        exact h1.corner
      have ett : E2 t t = bq E (t + 1) := by
        rw [he2]
        exact gj_pv E t
      have ez : (intsV ((List.range m).map (E2 t)))[t]? = some (.int (bq E (t + 1))) := by
        rw [ints_at (by omega), ett]
      have z0 : bq E (t + 1) ≠ 0 := by
        rw [bq_succ]
        omega
      have m2t : (rs2.map V.ref)[t]? = some (.ref lt) := by
        rw [List.getElem?_map, e1]
        rfl
      rw [show (0 : Int) + (t : Nat) = (t : Nat) by omega]
      refine ⟨_, rfl, _, rfl, a2, lt, _, _, t, _, rfl, .of m2.eA, by rw [List.length_map, m2.len]; omega, m2t, .of eL, ez, z0, ?_⟩
      refine ⟨_, rfl, rfl, _, rfl, ifF (fun z => nomatch z) ?_⟩
      refine ⟨_, rfl, _, rfl, rfl, _, rfl, ifF (by simp) ?_⟩
      refine ⟨_, rfl, _, rfl, _, rfl, a2, rs2, n, m, t, bR b t, bq E t, E2, rfl, m2, ht, by omega, by omega, by omega, gp.2, hq9, bR_pos b0 t, bR_le5 b9 (by omega), hb2, fun a3 rs3 H3 s3 n3 m3 => ?_⟩
      refine ⟨_, rfl, _, rfl, a2, _, (t : Int), _, rfl, rfl, .of (s3 _ _ m2.eA), atI_nat m2t, _, rfl, lt, _, (t : Int), _, rfl, rfl, .of (s3 _ _ eL), atI_nat ez, _, _, rfl, ?_⟩
      refine ⟨a3, rs3, clr E2 t (bq E t), _, _, rfl, s2.trans s3, m3, clr_lt gp.2 ht (by omega) hb2, ?_, by rw [he2]; rfl⟩
      rw [← ett]
      exact Nat.lt_of_lt_of_le (hb2 t t ht (by omega)) (Nat.pow_le_pow_right (by decide) (by rw [bR]; omega))
    · rintro σ H2 ⟨a2, rs2, E2, y3, y4, rfl, s2, m2, hb2, hq2, he2⟩
      refine ⟨_, rfl, _, rfl, sz63 (by show 2 ≤ 1000; decide), fun p np => q p a2 rs2 _ (s2.trans (same_new np)) (s2.free np) (by rw [upd_same, g.last]) ?_⟩
      rw [← he2]
      exact ⟨same_new np _ _ m2.eA, m2.len, fun i r e => same_new np _ _ (m2.row i r e)⟩
end
end Kx
set_option exponentiation.threshold 10000
/-! Squares solved. -/
namespace Kx
open PySem PySem.Spec PyProof.Rows L2 Bw
abbrev ssolved : Stmt := topS 23
abbrev nsolved : List Str := ["square", "sides", "rows", "bottom", "row", "side", "number"]
theorem csolved : FnScope nsolved ["square", "sides"] (defScope ssolved) :=
  ⟨rfl, rfl, rfl, by decide +kernel, rfl, by decide +kernel, by decide +kernel⟩

theorem sumQ_mul (c : Rat) : ∀ l : List Rat, Bq.sumQ (l.map fun q => c * q) = c * Bq.sumQ l
  | [] => by
    show (0 : Rat) = c * 0
    grind
  | q :: l => by
    rw [List.map_cons, Bq.sumQ, sumQ_mul c l, Bq.sumQ]
    grind
theorem pa_starK {X : Cx} {K : PySem.W.Frag} (h : X.K = K) {e : Expr} {es : List Expr} {te : TE} {t : TA} {p : Pos} (he : PE X e te) (hr : PA X es t) (hs : starEach (.Starred e p :: es) X.env = (true, eval e X.env) :: starEach es X.env := by rfl) : PA X (.Starred e p :: es) (StX.tStar K te t) := by
  subst h
  exact StX.pa_star he hr hs
theorem cut_from {xs : List V} {n : Nat} (h : n ≤ xs.length) : cutV xs (some (n : Int)) none = xs.drop n := by
  unfold cutV
  rw [HT.sIx_none, HT.sIx_nat, Nat.min_eq_left h]
  exact List.take_of_length_le (by rw [List.length_drop]; exact Nat.le_refl _)
theorem frRow_app {K : PySem.W.Frag} {H : Hp} {xs ys : List V} {ps qs : List Rat} (h : FrRow K H xs ps) (g : FrRow K H ys qs) : FrRow K H (xs ++ ys) (ps ++ qs) := by
  have h1 := h.1
  have g1 := g.1
  refine ⟨by rw [List.length_append, List.length_append]; omega, fun i v q e1 e2 => ?_⟩
  by_cases c : i < xs.length
  · rw [List.getElem?_append_left c] at e1
    rw [List.getElem?_append_left (by omega)] at e2
    exact h.2 i v q e1 e2
  · rw [List.getElem?_append_right (by omega)] at e1
    rw [List.getElem?_append_right (by omega), ← h1] at e2
    exact g.2 _ v q e1 e2
/-- a square and what stands beside it -/
def besQ (n : Nat) (F G : Nat → Nat → Rat) : Nat → Nat → Rat := fun i j => if j < n then F i j else G i (j - n)
def slvQ (n c : Nat) (F G : Nat → Nat → Rat) (k j : Nat) : Rat := Rat.divInt (gj (upM (n + c) (besQ n F G)) n k (n + j)) (det n (upM (n + c) (besQ n F G)))
theorem range_add (n c : Nat) : List.range (n + c) = List.range n ++ (List.range c).map fun j => n + j := List.range_add ..
theorem bes_row (n c : Nat) (F G : Nat → Nat → Rat) (i : Nat) : (List.range (n + c)).map (besQ n F G i) = (List.range n).map (F i) ++ (List.range c).map (G i) := by
  rw [range_add, List.map_append, List.map_map]
  congr 1
  · refine List.map_congr_left fun j hj => ?_
    unfold besQ
    rw [if_pos (List.mem_range.mp hj)]
  · refine List.map_congr_left fun j _ => ?_
    show besQ n F G i (n + j) = _
    unfold besQ
    rw [if_neg (by omega), Nat.add_sub_cancel_left]
theorem slv_solves {n c : Nat} {F G : Nat → Nat → Rat} (g : Gd n (upM (n + c) (besQ n F G))) {r j : Nat} (hr : r < n) (hj : j < c) (cp : 0 < cbR (n + c) (besQ n F G) r) :
    Bq.sumQ ((List.range n).map fun k => F r k * slvQ n c F G k j) = G r j := by
  have e := gj_solves g hr (show n ≤ n + j by omega)
  have d0 := g.det
  have up : ∀ k, k < n + c → ((upM (n + c) (besQ n F G) r k : Int) : Rat) = fQ (cbR (n + c) (besQ n F G) r) * besQ n F G r k := fun k hk => upZ_eq (den_cb (List.mem_map.mpr ⟨k, List.mem_range.mpr hk, rfl⟩))
  have zc : ∀ (f : Nat → Int) (m : Nat), ((sZ m f : Int) : Rat) = Bq.sumQ ((List.range m).map fun k => ((f k : Int) : Rat)) := fun f m => by
    induction m with
    | zero => rfl
    | succ m ih =>
      rw [sZ, Rat.intCast_add, ih, List.range_succ, List.map_append, sumQ_app]
      show _ = _ + (((f m : Int) : Rat) + 0)
      grind
  have e2 : Bq.sumQ ((List.range n).map fun k => (((gj (upM (n + c) (besQ n F G)) n k (n + j) * upM (n + c) (besQ n F G) r k : Int)) : Rat)) = ((det n (upM (n + c) (besQ n F G)) * upM (n + c) (besQ n F G) r (n + j) : Int) : Rat) := by
    rw [← zc, e]
  have dq : ((det n (upM (n + c) (besQ n F G)) : Int) : Rat) ≠ 0 := by
    have : det n (upM (n + c) (besQ n F G)) ≠ 0 := by omega
    exact_mod_cast this
  have lq := fQ_ne cp
  have e3 : ((List.range n).map fun k => (((gj (upM (n + c) (besQ n F G)) n k (n + j) * upM (n + c) (besQ n F G) r k : Int)) : Rat)) = ((List.range n).map fun k => F r k * slvQ n c F G k j).map fun q => (fQ (cbR (n + c) (besQ n F G) r) * ((det n (upM (n + c) (besQ n F G)) : Int) : Rat)) * q := by
    rw [List.map_map]
    refine List.map_congr_left fun k hk => ?_
    have hk' := List.mem_range.mp hk
    show _ = (fQ (cbR (n + c) (besQ n F G) r) * ((det n (upM (n + c) (besQ n F G)) : Int) : Rat)) * (F r k * slvQ n c F G k j)
    rw [Rat.intCast_mul, up k (by omega)]
    unfold slvQ
    rw [Rat.divInt_eq_div]
    have eb : besQ n F G r k = F r k := if_pos hk'
    rw [eb]
    generalize ((det n (upM (n + c) (besQ n F G)) : Int) : Rat) = d at *
    generalize ((gj (upM (n + c) (besQ n F G)) n k (n + j) : Int) : Rat) = y
    generalize fQ (cbR (n + c) (besQ n F G) r) = l at *
    generalize F r k = f
    grind
  rw [e3, sumQ_mul, Rat.intCast_mul, up (n + j) (by omega)] at e2
  have eb : besQ n F G r (n + j) = G r j := by
    unfold besQ
    rw [if_neg (by omega), Nat.add_sub_cancel_left]
  rw [eb] at e2
  generalize Bq.sumQ ((List.range n).map fun k => F r k * slvQ n c F G k j) = s at *
  generalize ((det n (upM (n + c) (besQ n F G)) : Int) : Rat) = d at *
  generalize fQ (cbR (n + c) (besQ n F G) r) = l at *
  generalize G r j = x at *
  have : l * d ≠ 0 := fun z => by
    rcases Rat.mul_eq_zero.mp z with z | z
    · exact lq z
    · exact dq z
  grind
section
variable {P : Program} {w : World} {K : PySem.W.Frag} {mg : Str → Option Value} {base : Heap}
def spSolved (K : PySem.W.Frag) : Sp := fun vs H Q _ => ∃ (a b : Addr) (rs ss : List Addr) (n c s rb : Nat) (F G : Nat → Nat → Rat) (R : Nat → Nat), vs = [.ref a, .ref b] ∧ MatQ K H a rs n n F ∧ MatQ K H b ss n c G ∧ n ≤ 5 ∧ c ≤ 6 ∧ 0 < s ∧ s ≤ 400 ∧ 0 < rb ∧ rb ≤ 400 ∧ (∀ i j, i < n → j < n + c → Bq.Sz s (besQ n F G i j) ∧ (besQ n F G i j).den ∣ R i) ∧ (∀ i, i < n → 0 < R i ∧ R i < 2 ^ rb) ∧ Gd n (upM (n + c) (besQ n F G)) ∧
  ∀ a' rs' H', Same H H' → H a' = none → MatQ K H' a' rs' n c (slvQ n c F G) → Q (.ref a') H'
theorem ok_solved {f : Addr} {fd : FuncData} (F : Fun K "solved" "solved" ssolved f fd) (M : Mb mg) (Dscaled_row : Df P w K mg base 2 "scaled_row" ["row"] (spScaledR K)) (Dreduced : Df P w K mg base 2 "reduced" ["rows"] (spReducedR K)) (Dlowest : Df P w K mg base 1 "lowest" ["top", "bottom"] spLowest) :
    FnOk P w K mg base CX0 3 f fd ["square", "sides"] (spSolved K) := by
  refine F.ok csolved (fun vs H Q E h => ?_) (fun cdv A outer s H vs Q X hr h => ?_)
  · obtain ⟨a, b, rs, ss, n, c, s, rb, F, G, R, rfl, _⟩ := h
    rfl
  · obtain ⟨a, b, rs, ss, n, c, sb, rb, T, G, R, rfl, hm, hg, n5, c6, s0, s4, rb0, r4, hs, hR, g, q⟩ := h
    refine ⟨_, (pss_cons (ps_asg (pe_call Dreduced.G (hr.mono (by first | decide | omega)) rfl Dreduced.g Dreduced.kp Dreduced.b .nil pass0 (pa_cons (pe_lc (own := [("row", 4), ("side", 5)]) rfl csolved.nd (pi_zip (by rfl) M.zip (pa_cons (pv 0) (pa_cons (pv 1) pa_nil))) (blkOk_by (own := [("row", 4), ("side", 5)]) (N := nsolved) (sc := defScope ssolved) (by decide +kernel)) (fun _ _ _ _ _ => (pg_tupK (K := K) (n := 2) rfl rfl (pgs_cons (pg_name (i := 4) csolved.nd rfl (.inl rfl)) (pgs_cons (pg_name (i := 5) csolved.nd rfl (.inl rfl)) pgs_nil)))) (fun _ _ _ _ _ => pts_nil) (fun _ _ _ _ _ => (pe_call Dscaled_row.G (hr.mono (by first | decide | omega)) rfl Dscaled_row.g Dscaled_row.kp Dscaled_row.b .nil pass0 (pa_cons (pe_lst (pa_starK (K := K) rfl (pv 4) (pa_starK (K := K) rfl (pv 5) pa_nil))) pa_nil)))) pa_nil)) (pg_tup rfl (pgs_cons (pg_name (i := 2) csolved.nd rfl (.inl rfl)) (pgs_cons (pg_name (i := 3) csolved.nd rfl (.inr rfl)) pgs_nil))))
 (pss_cons (ps_if (pt_cmpR op_eq (pv 3) pe_int (nomark _))
 (pss_one (ps_ret pe_non))
 pss_nil)
 (pss_one (ps_ret (pe_lc (own := [("row", 4)]) rfl csolved.nd (pi_list (pv 2)) (blkOk_by (own := [("row", 4)]) (N := nsolved) (sc := defScope ssolved) (by decide +kernel)) (fun _ _ _ _ _ => (pg_name (i := 4) csolved.nd rfl (.inl rfl))) (fun _ _ _ _ _ => pts_nil) (fun _ _ _ _ _ => (by exact (pe_lc (own := [("number", 6)]) rfl csolved.nd (pi_listK (K := K) rfl (pe_slice (sl_listK (K := K) rfl) (pv 4) (po_some (pe_callB (id := "len") (call_lenK (K := K) rfl) (by rfl) M.len (by decide +kernel) (pa_cons (pv 0) pa_nil))) po_none)) (blkOk_by (by rfl)) (fun _ _ _ _ _ => (pg_name (i := 6) csolved.nd rfl (.inl rfl))) (fun _ _ _ _ _ => pts_nil) (fun _ _ _ _ _ => (pe_call Dlowest.G (hr.mono (by first | decide | omega)) rfl Dlowest.g Dlowest.kp Dlowest.b .nil pass0 (pa_cons (pv 6) (pa_cons (pv 3) pa_nil)))))))))))), ?_⟩
    have dv : ∀ i, i < n → ∀ q ∈ (List.range (n + c)).map (besQ n T G i), q.den ∣ R i := fun i hi q hq => by
      obtain ⟨j, hj, rfl⟩ := List.mem_map.mp hq
      exact (hs i j hi (List.mem_range.mp hj)).2
    have szr : ∀ i, i < n → ∀ q ∈ (List.range (n + c)).map (besQ n T G i), Bq.Sz sb q := fun i hi q hq => by
      obtain ⟨j, hj, rfl⟩ := List.mem_map.mp hq
      exact (hs i j hi (List.mem_range.mp hj)).1
    have cp : ∀ i, i < n → 0 < cbR (n + c) (besQ n T G) i := fun i hi => cb_pos (hR i hi).1 (dv i hi)
    have cl : ∀ i, i < n → cbR (n + c) (besQ n T G) i < 2 ^ rb := fun i hi => by
      have h1 : cbR (n + c) (besQ n T G) i ≤ R i := Nat.le_of_dvd (hR i hi).1 (cb_dvd (dv i hi))
      have := (hR i hi).2
      omega
    have up : ∀ i j, i < n → j < n + c → (upM (n + c) (besQ n T G) i j).natAbs < 2 ^ (sb + rb) := fun i j hi hj => upZ_lt (cl i hi) (hs i j hi hj).1
    refine ⟨_, rfl, _, rfl, a, b, _, _, rfl, .of hm.eA, .of hg.eA, fun D nD => ?_⟩
    refine lc_rel (walk_zip (K := K) (a := a) (b := b) (n := n) (by rw [List.length_map, List.length_map, hm.len, hg.len, Nat.min_self])) No (fun H' i y => ∃ p, y = .ref p ∧ (p ≠ D ∧ H' p = some (.lst (intsV ((List.range (n + c)).map (upM (n + c) (besQ n T G) i)))))) (fun H H' i v k r => ?_) nD (fun _ z => z.elim) (by omega)
      (fun H' k' => ⟨.of (no_same k' _ _ hm.eA), .of (no_same k' _ _ hg.eA)⟩) ?_ ?_
    · obtain ⟨p, rfl, ne, hp⟩ := r
      exact ⟨p, rfl, ne, k _ _ (fun z => z.elim id ne) hp⟩
    · rintro i x H2 _ Q' hi k2 nD2 ⟨T2, x1, y1, rfl, nT, rfl, e1, e2⟩ q'
      obtain ⟨r, er, rfl⟩ := map_some e1
      obtain ⟨s1, es, rfl⟩ := map_some e2
      have s2 := (no_same k2).trans (same_new (o := .tup [.ref r, .ref s1]) nT)
      have s2' := same_new (o := .tup [.ref r, .ref s1]) nT
      obtain ⟨xs, exs, fr⟩ := (hm.same s2).row i r er
      obtain ⟨ys, eys, fr2⟩ := (hg.same s2).row i s1 es
      have xl : xs.length = n := by
        have := fr.1
        simpa using this
      have yl : ys.length = c := by
        have := fr2.1
        simpa using this
      refine ⟨T2, _, rfl, .of upd_same, rfl, _, _, rfl, _, _, rfl, rfl, rfl, ?_⟩
      refine ⟨_, rfl, r, xs, rfl, .inr (.of exs), _, rfl, s1, ys, rfl, .inr (.of eys), sz63 (by rw [List.length_append, List.length_append]; simp; omega), fun L nL => ?_⟩
      have frA := frRow_app fr fr2
      rw [← bes_row] at frA
      have s3 := same_new (o := .lst (xs ++ (ys ++ []))) nL
      refine ⟨L, _, _, R i, sb, rb, rfl, .of upd_same, by rw [List.append_nil]; exact frA.same (same_new nL), (hR i hi).1, (hR i hi).2, rb0, r4, dv i hi, szr i hi, by omega, by rw [List.length_map, List.length_range]; omega, fun D4 H4 s4 n4 e4 => q' _ _ (Kp.same (s2'.trans (s3.trans s4))) ⟨D4, rfl, fun z => nD2 (by rw [← z]; exact s2'.free (s3.free n4)), ?_⟩⟩
      rw [e4, List.map_map]
      rfl
    rintro H3 acc3 k3 eD3 hla3 ha3
    have s3 := no_same k3
    obtain ⟨rs3, rfl, hr3⟩ := refs_of (P := fun i r => r ≠ D ∧ H3 r = some (.lst (intsV ((List.range (n + c)).map (upM (n + c) (besQ n T G) i))))) ha3
    rw [List.length_map] at hla3
    refine ⟨D, rs3, n, n + c, sb + rb, upM (n + c) (besQ n T G), rfl, ⟨eD3, hla3, fun i r e => (hr3 i r e).2⟩, by omega, by omega, by omega, by omega, by omega, fun i j hi hj => up i j hi hj, g, fun p a4 rs4 H4 s4 n4 e4 m4 => ?_⟩
    refine ⟨p, _, rfl, .of e4, rfl, _, _, rfl, _, _, rfl, rfl, ?_⟩
    have d0 := g.det
    have dlt : (det n (upM (n + c) (besQ n T G))).natAbs < 2 ^ 9000 := by
      have h2 := g.det_le
      have h3 := pZ_lt (f := fun i => upM (n + c) (besQ n T G) i i) (b := sb + rb) (n := n) fun i hi => up i i hi (by omega)
      have h4 : 1 + n * (sb + rb) ≤ 1 + 5 * 800 := by
        have := Nat.mul_le_mul n5 (show sb + rb ≤ 800 by omega)
        omega
      have h5 : 2 ^ (1 + n * (sb + rb)) ≤ 2 ^ 9000 := pow_le (by omega)
      omega
    refine ⟨_, rfl, rfl, _, rfl, ifF (fun z => by
      have := V.int.inj (of_decide_eq_true z)
      omega) ?_⟩
    refine ⟨_, rfl, a4, rfl, ⟨_, .of m4.eA⟩, fun D2 nD2 => ?_⟩
    refine lc_rel (walk_list (K := K) (a := a4) (xs := rs4.map V.ref)) No (fun H' i y => ∃ p, y = .ref p ∧ (p ≠ D2 ∧ ∃ zs, H' p = some (.lst zs) ∧ zs.length = c ∧ ∀ (j : Nat) v, zs[j]? = some v → ∃ t, v = .ref t ∧ t ≠ D2 ∧ H' t = some (.tup [.int (slvQ n c T G i j).num, .int (slvQ n c T G i j).den]))) (fun H H' i v k r => ?_) nD2 (fun _ z => z.elim) (by rw [List.length_map, m4.len]; omega)
      (fun H' k' => .of (no_same k' _ _ m4.eA)) ?_ ?_
    · obtain ⟨p, rfl, ne, zs, hp, zl, hz⟩ := r
      refine ⟨p, rfl, ne, zs, k _ _ (fun z => z.elim id ne) hp, zl, fun j v e => ?_⟩
      obtain ⟨t, rfl, nt, ht⟩ := hz j v e
      exact ⟨t, rfl, nt, k _ _ (fun z => z.elim id nt) ht⟩
    · rintro i x _ H5 Q' hi k5 nD5 ⟨rfl, hx⟩ q'
      rw [List.length_map, m4.len] at hi
      obtain ⟨r, er, rfl⟩ := map_some hx
      have s5 := no_same k5
      have s35 := (s3.trans s4).trans s5
      have eR := s5 _ _ (m4.row i r er)
      have eA5 := s35 _ _ hm.eA
      refine ⟨rfl, _, rfl, _, rfl, a, _, rfl, .inl (.of eA5), _, rfl, ?_⟩
      dsimp only [tNoPart]
      refine ⟨r, _, rfl, .of eR, fun L nL => ?_⟩
      rw [List.length_map, hm.len, cut_from (by rw [ints_len]; omega)]
      have s6 := same_new (o := .lst ((intsV ((List.range (n + c)).map (gj (upM (n + c) (besQ n T G)) n i))).drop n)) nL
      have dl : ((intsV ((List.range (n + c)).map (gj (upM (n + c) (besQ n T G)) n i))).drop n).length = c := by
        rw [List.length_drop, ints_len]
        omega
      refine ⟨L, rfl, ⟨_, .of upd_same⟩, fun D6 nD6 => ?_⟩
      have nD5' : D2 ≠ D6 := fun z => nD5 (by rw [z]; exact s6.free nD6)
      refine lc_rel (walk_list (K := K) (a := L) (xs := (intsV ((List.range (n + c)).map (gj (upM (n + c) (besQ n T G)) n i))).drop n)) No (fun H' j y => ∃ t, y = .ref t ∧ t ≠ D6 ∧ t ≠ D2 ∧ H' t = some (.tup [.int (slvQ n c T G i j).num, .int (slvQ n c T G i j).den])) (fun H H' i v k r => ?_) nD6 (fun _ z => z.elim) (by omega)
        (fun H' k' => .of (no_same k' _ _ upd_same)) ?_ ?_
      · obtain ⟨t, rfl, n1, n2, ht⟩ := r
        exact ⟨t, rfl, n1, n2, k _ _ (fun z => z.elim id n1) ht⟩
      · rintro j x _ H7 Q2 hj k7 nD7 ⟨rfl, hx⟩ q2
        rw [dl] at hj
        rw [List.getElem?_drop, ints_at (by omega)] at hx
        obtain rfl := Option.some.inj hx
        refine ⟨rfl, _, rfl, _, rfl, _, _, 9000, rfl, d0, dlt, by omega, fun t nt => q2 _ _ (Kp.new nt) ⟨t, rfl, fun z => ?_, fun z => ?_, upd_same⟩⟩
        · rw [z] at nt
          exact nD7 nt
        · rw [z] at nt
          exact nD5 (s6.free ((no_same k7).free nt))
      · rintro H7 acc7 k7 eD7 hla7 ha7
        have s7 := no_same k7
        rw [dl] at hla7
        refine q' _ _ (Kp.same (s6.trans s7)) ⟨D6, rfl, Ne.symm nD5', acc7, eD7, hla7, fun j v e => ?_⟩
        obtain ⟨t, rfl, n1, n2, ht⟩ := ha7 j v e
        exact ⟨t, rfl, n2, ht⟩
    · rintro H5 acc5 k5 eD5 hla5 ha5
      have s5 := no_same k5
      rw [List.length_map, m4.len] at hla5
      obtain ⟨rs5, rfl, hr5⟩ := refs_of (P := fun i p => p ≠ D2 ∧ ∃ zs, H5 p = some (.lst zs) ∧ zs.length = c ∧ ∀ (j : Nat) v, zs[j]? = some v → ∃ t, v = .ref t ∧ t ≠ D2 ∧ H5 t = some (.tup [.int (slvQ n c T G i j).num, .int (slvQ n c T G i j).den])) ha5
      rw [List.length_map] at hla5
      refine q D2 rs5 H5 ((s3.trans s4).trans s5) ((s3.trans s4).free nD2) ⟨eD5, hla5, fun i r e => ?_⟩
      obtain ⟨_, zs, h1, h2, h3⟩ := hr5 i r e
      refine ⟨zs, h1, by rw [List.length_map, List.length_range]; exact h2, fun j v q e1 e2 => ?_⟩
      have hj : j < c := by
        have := (List.getElem?_eq_some_iff.mp e1).1
        omega
      rw [List.getElem?_map, List.getElem?_range hj] at e2
      obtain rfl := Option.some.inj e2
      obtain ⟨t, rfl, _, ht⟩ := h3 j v e1
      exact ⟨t, rfl, .of ht⟩
end
end Kx
set_option exponentiation.threshold 10000
/-! Driving heights: what solves the square of drawn weights. Plain mathematics. -/
namespace Kx
open PySem PySem.Spec PyProof.Rows L2 Bw
abbrev hF (k two : Nat) (R : Nat → Nat → Rat) : Nat → Nat → Rat := sqF R k two
def hG (one two : Nat) : Nat → Nat → Rat := fun r _ => if sk two r = one then 1 else 0
/-- the rows times what makes them whole -/
theorem hF_lap {k two : Nat} {R : Nat → Nat → Rat} (h : Bnds (k + 1) R) {r c : Nat} (hr : r < k) (hc : c < k) : hF k two R r c * fQ (dnP (k + 1) R (sk two r)) = ((no two (lap (k + 1) (mf (scM (k + 1) R))) r c : Int) : Rat) := by
  have hs := sk_lt (i := two) hr
  have e1 := scN_eq h (i := sk two r) (j := sk two c) (sk_lt hc)
  have e2 := sc_sum h hs
  have cst : ∀ x : Nat, (((x : Nat) : Int) : Rat) = fQ x := fun x => Rat.intCast_natCast x
  show ((if c = r then Bq.sumQ ((List.range (k + 1)).map (R (sk two r))) else 0) - R (sk two r) (sk two c)) * _ = (((if sk two r = sk two c then ((sN (k + 1) (mf (scM (k + 1) R) (sk two r)) : Nat) : Int) else 0) - (mf (scM (k + 1) R) (sk two r) (sk two c) : Int) : Int) : Rat)
  rw [Rat.intCast_sub, cst, scM_at hs (sk_lt hc), e1]
  by_cases c1 : c = r
  · rw [if_pos c1, if_pos (by rw [c1]), cst, e2]
    grind
  · rw [if_neg c1, if_neg fun z => c1 (sk_inj z).symm, Rat.intCast_zero]
    grind
theorem hF_dvd {k two : Nat} {R : Nat → Nat → Rat} (h : Bnds (k + 1) R) {r c : Nat} (hr : r < k) (hc : c < k) : (hF k two R r c).den ∣ dnP (k + 1) R (sk two r) ∧ hF k two R r c = Rat.divInt (no two (lap (k + 1) (mf (scM (k + 1) R))) r c) (dnP (k + 1) R (sk two r) : Nat) := by
  have p := dnP_pos (n := k + 1) (R := R) (sk two r)
  have cst : ∀ x : Nat, (((x : Nat) : Int) : Rat) = fQ x := fun x => Rat.intCast_natCast x
  have e : hF k two R r c = Rat.divInt (no two (lap (k + 1) (mf (scM (k + 1) R))) r c) (dnP (k + 1) R (sk two r) : Nat) := by
    rw [Rat.divInt_eq_div, cst, ← hF_lap h hr hc]
    have := fQ_ne p
    grind
  refine ⟨?_, e⟩
  rw [e]
  have h1 := Bq.q_den (a := no two (lap (k + 1) (mf (scM (k + 1) R))) r c) (b := (dnP (k + 1) R (sk two r) : Int)) (by omega)
  rw [Int.natAbs_natCast, ← Int.natCast_ediv] at h1
  have h2 : (Rat.divInt (no two (lap (k + 1) (mf (scM (k + 1) R))) r c) (dnP (k + 1) R (sk two r) : Nat)).den = dnP (k + 1) R (sk two r) / Nat.gcd (no two (lap (k + 1) (mf (scM (k + 1) R))) r c).natAbs (dnP (k + 1) R (sk two r)) := by exact_mod_cast h1
  rw [h2]
  exact Nat.div_dvd_of_dvd (Nat.gcd_dvd_right _ _)
theorem dnP_le {n : Nat} {R : Nat → Nat → Rat} (h : Bnds n R) (n6 : n ≤ 6) (i : Nat) : dnP n R i ≤ 2 ^ 36 := by
  have h1 := pP_lt (f := fun j => (R i j).den) (b := 6) (n := n) fun j _ => Nat.lt_of_le_of_lt (h.wt i j).2.2 (by decide)
  exact Nat.le_trans h1 (Nat.pow_le_pow_right (by decide) (by omega))
theorem hF_sz {k two : Nat} {R : Nat → Nat → Rat} (h : Bnds (k + 1) R) (n6 : k + 1 ≤ 6) {r c : Nat} (hr : r < k) (hc : c < k) : Bq.Sz 61 (hF k two R r c) := by
  have wk := sc_wk h (by omega) n6
  have p := dnP_pos (n := k + 1) (R := R) (sk two r)
  have d := dnP_le h n6 (sk two r)
  rw [(hF_dvd h hr hc).2]
  refine Bq.sz_div (by omega) ?_ (by rw [Int.natAbs_natCast]; exact Nat.lt_of_le_of_lt d (by decide))
  have h1 := wk.rs_lt (sk_lt (i := two) hr)
  have h3 := wk.k (sk two r) (sk two c) (sk_lt hr) (sk_lt hc)
  show ((if sk two r = sk two c then ((sN (k + 1) (mf (scM (k + 1) R) (sk two r)) : Nat) : Int) else 0) - (mf (scM (k + 1) R) (sk two r) (sk two c) : Int)).natAbs < 2 ^ 61
  have p3 : 2 ^ (56 + 3) ≤ 2 ^ 61 := pow_le (by omega)
  have p4 : 2 ^ 56 ≤ 2 ^ (56 + 3) := pow_le (by omega)
  split <;> omega
theorem hB_sz {k one two : Nat} {R : Nat → Nat → Rat} (h : Bnds (k + 1) R) (n6 : k + 1 ≤ 6) : ∀ i j, i < k → j < k + 1 → Bq.Sz 61 (besQ k (hF k two R) (hG one two) i j) ∧ (besQ k (hF k two R) (hG one two) i j).den ∣ dnP (k + 1) R (sk two i) := fun i j hi hj => by
  unfold besQ
  split
  · exact ⟨hF_sz h n6 hi (by assumption), (hF_dvd h hi (by assumption)).1⟩
  · unfold hG
    split
    · exact ⟨⟨by decide, by decide⟩, Nat.one_dvd _⟩
    · exact ⟨Bq.Sz.zero.mono (by omega), Nat.one_dvd _⟩
theorem hB_cp {k one two : Nat} {R : Nat → Nat → Rat} (h : Bnds (k + 1) R) (n6 : k + 1 ≤ 6) {r : Nat} (hr : r < k) : 0 < cbR (k + 1) (besQ k (hF k two R) (hG one two)) r :=
  cb_pos (dnP_pos (n := k + 1) (R := R) (sk two r)) fun q hq => by
    obtain ⟨j, hj, rfl⟩ := List.mem_map.mp hq
    exact (hB_sz h n6 r j hr (List.mem_range.mp hj)).2
theorem h_good {k one two : Nat} {R : Nat → Nat → Rat} (h : Bnds (k + 1) R) (n6 : k + 1 ≤ 6) (hroot : two < k + 1) : Gd k (upM (k + 1) (besQ k (hF k two R) (hG one two))) := by
  have wk := sc_wk h (by omega) n6
  have g := no_good wk.st hroot
  have g1 := g.rows (q := fun r => (cbR (k + 1) (besQ k (hF k two R) (hG one two)) r : Int)) fun r hr => by
    have := hB_cp (one := one) (two := two) h n6 hr
    omega
  refine Gd.unrows (q := fun r => (dnP (k + 1) R (sk two r) : Int)) (fun r hr => by
    have := dnP_pos (n := k + 1) (R := R) (sk two r)
    omega) (g1.congr fun r c hr hc => ?_)
  have e1 := upZ_eq (L := cbR (k + 1) (besQ k (hF k two R) (hG one two)) r) (q := besQ k (hF k two R) (hG one two) r c) (den_cb (List.mem_map.mpr ⟨c, List.mem_range.mpr (by omega), rfl⟩))
  have e2 := hF_lap (two := two) h hr hc
  have eb : besQ k (hF k two R) (hG one two) r c = hF k two R r c := if_pos hc
  have cst : ∀ x : Nat, (((x : Nat) : Int) : Rat) = fQ x := fun x => Rat.intCast_natCast x
  rw [eb] at e1
  have e3 : (((cbR (k + 1) (besQ k (hF k two R) (hG one two)) r : Int) * no two (lap (k + 1) (mf (scM (k + 1) R))) r c : Int) : Rat) = (((dnP (k + 1) R (sk two r) : Int) * upM (k + 1) (besQ k (hF k two R) (hG one two)) r c : Int) : Rat) := by
    rw [Rat.intCast_mul, Rat.intCast_mul, cst, cst, ← e2]
    have e4 : ((upM (k + 1) (besQ k (hF k two R) (hG one two)) r c : Int) : Rat) = fQ (cbR (k + 1) (besQ k (hF k two R) (hG one two)) r) * hF k two R r c := by
      show ((upZ (cbR (k + 1) (besQ k (hF k two R) (hG one two)) r) (besQ k (hF k two R) (hG one two) r c) : Int) : Rat) = _
      rw [eb]
      exact e1
    rw [e4]
    grind
  exact_mod_cast e3
/-- the driving heights -/
def hgt (k one two : Nat) (R : Nat → Nat → Rat) (j : Nat) : Rat := if j < two then slvQ k 1 (hF k two R) (hG one two) j 0 else if j = two then 0 else slvQ k 1 (hF k two R) (hG one two) (j - 1) 0
theorem hgt_two (k one two : Nat) (R : Nat → Nat → Rat) : hgt k one two R two = 0 := by
  unfold hgt
  rw [if_neg (Nat.lt_irrefl two), if_pos rfl]
theorem hgt_sk (k one two : Nat) (R : Nat → Nat → Rat) (c : Nat) : hgt k one two R (sk two c) = slvQ k 1 (hF k two R) (hG one two) c 0 := by
  unfold hgt sk
  by_cases h : c < two
  · rw [if_pos h, if_pos h]
  · rw [if_neg h, if_neg (by omega), if_neg (by omega), Nat.add_sub_cancel]
theorem sumQ_skip (f : Nat → Rat) (i : Nat) : ∀ n, i ≤ n → Bq.sumQ ((List.range (n + 1)).map f) = f i + Bq.sumQ ((List.range n).map fun c => f (sk i c))
  | 0, h => by
    have : i = 0 := by omega
    subst this
    rfl
  | n + 1, h => by
    have sn : ∀ (g : Nat → Rat) (m : Nat), Bq.sumQ ((List.range (m + 1)).map g) = Bq.sumQ ((List.range m).map g) + g m := fun g m => by
      rw [List.range_succ, List.map_append]
      exact Bq.sum_snoc _ _
    by_cases c : i = n + 1
    · subst c
      rw [sn f (n + 1)]
      have : (List.range (n + 1)).map (fun c => f (sk (n + 1) c)) = (List.range (n + 1)).map f := List.map_congr_left fun c hc => by
        unfold sk
        rw [if_pos (List.mem_range.mp hc)]
      rw [this]
      grind
    · rw [sn f (n + 1), sumQ_skip f i n (by omega), sn _ n]
      have : sk i n = n + 1 := by
        unfold sk
        rw [if_neg (by omega)]
      rw [this]
      grind
theorem sS_all (n : Nat) (h : Nat → Rat) : sS n (fun _ => true) h = Bq.sumQ ((List.range n).map h) := by
  unfold sS
  rw [List.filter_eq_self.mpr fun _ _ => rfl]
/-- what goes out at each place but the second one -/
theorem hgt_out {k one two : Nat} {R : Nat → Nat → Rat} (h : Bnds (k + 1) R) (n6 : k + 1 ≤ 6) (ht : two < k + 1) {i : Nat} (hi : i < k + 1) (ne : i ≠ two) :
    sS (k + 1) (fun _ => true) (fun j => R i j * (hgt k one two R i - hgt k one two R j)) = if i = one then 1 else 0 := by
  obtain ⟨r, hr, rfl⟩ := sk_of hi ht ne
  have e := slv_solves (h_good (one := one) h n6 ht) hr (show 0 < 1 by omega) (hB_cp (one := one) (two := two) h n6 hr)
  have e1 : ((List.range k).map fun c => hF k two R r c * slvQ k 1 (hF k two R) (hG one two) c 0) = (List.range k).map fun c => (if c = r then Bq.sumQ ((List.range (k + 1)).map (R (sk two r))) * hgt k one two R (sk two r) else 0) - R (sk two r) (sk two c) * hgt k one two R (sk two c) := by
    refine List.map_congr_left fun c hc => ?_
    rw [hgt_sk k one two R c]
    show ((if c = r then Bq.sumQ ((List.range (k + 1)).map (R (sk two r))) else 0) - R (sk two r) (sk two c)) * _ = _
    by_cases z : c = r
    · subst z
      rw [if_pos rfl, if_pos rfl, hgt_sk k one two R c]
      grind
    · rw [if_neg z, if_neg z]
      grind
  have lin : ∀ (f g : Nat → Rat) (m : Nat), Bq.sumQ ((List.range m).map fun j => f j - g j) = Bq.sumQ ((List.range m).map f) - Bq.sumQ ((List.range m).map g) := fun f g m => by
    induction m with
    | zero =>
      show (0 : Rat) = 0 - 0
      grind
    | succ m ih =>
      rw [List.range_succ, List.map_append, List.map_append, List.map_append, sumQ_app, sumQ_app, sumQ_app, ih]
      show _ + (f m - g m + 0) = _ + (f m + 0) - (_ + (g m + 0))
      grind
  have pick : ∀ (v : Rat) (m : Nat), Bq.sumQ ((List.range m).map fun c => if c = r then v else 0) = if r < m then v else 0 := fun v m => by
    induction m with
    | zero => rfl
    | succ m ih =>
      rw [List.range_succ, List.map_append, sumQ_app, ih]
      show _ + ((if m = r then v else 0) + 0) = _
      by_cases z : m = r
      · subst z
        rw [if_neg (Nat.lt_irrefl m), if_pos rfl, if_pos (Nat.lt_succ_self m)]
        grind
      · rw [if_neg z]
        by_cases y : r < m
        · rw [if_pos y, if_pos (show r < m + 1 by omega)]
          grind
        · rw [if_neg y, if_neg (show ¬ r < m + 1 by omega)]
          grind
  rw [e1, lin, pick, if_pos hr] at e
  have e2 : Bq.sumQ ((List.range (k + 1)).map fun j => R (sk two r) j * hgt k one two R j) = Bq.sumQ ((List.range k).map fun c => R (sk two r) (sk two c) * hgt k one two R (sk two c)) := by
    rw [sumQ_skip _ two k (by omega), hgt_two]
    grind
  have e3 : sS (k + 1) (fun _ => true) (fun j => R (sk two r) j * (hgt k one two R (sk two r) - hgt k one two R j)) = Bq.sumQ ((List.range (k + 1)).map (R (sk two r))) * hgt k one two R (sk two r) - Bq.sumQ ((List.range (k + 1)).map fun j => R (sk two r) j * hgt k one two R j) := by
    rw [sS_all]
    have e4 : ((List.range (k + 1)).map fun j => R (sk two r) j * (hgt k one two R (sk two r) - hgt k one two R j)) = (List.range (k + 1)).map fun j => (hgt k one two R (sk two r) * R (sk two r) j) - R (sk two r) j * hgt k one two R j := List.map_congr_left fun j _ => by grind
    rw [e4, lin]
    have := sumQ_mul (hgt k one two R (sk two r)) ((List.range (k + 1)).map (R (sk two r)))
    rw [List.map_map] at this
    have e5 : Bq.sumQ ((List.range (k + 1)).map fun j => hgt k one two R (sk two r) * R (sk two r) j) = hgt k one two R (sk two r) * Bq.sumQ ((List.range (k + 1)).map (R (sk two r))) := this
    rw [e5, Rat.mul_comm]
  rw [e3, e2]
  show _ = if sk two r = one then (1 : Rat) else 0
  exact e
theorem slv_sz {k one two : Nat} {R : Nat → Nat → Rat} (h : Bnds (k + 1) R) (n6 : k + 1 ≤ 6) (ht : two < k + 1) {c : Nat} (hc : c < k) : Bq.Sz 510 (slvQ k 1 (hF k two R) (hG one two) c 0) := by
  have g := h_good (one := one) h n6 ht
  have up : ∀ i j, i < k → j < k + 1 → (upM (k + 1) (besQ k (hF k two R) (hG one two)) i j).natAbs < 2 ^ (61 + 37) := fun i j hi hj => by
    have h1 : cbR (k + 1) (besQ k (hF k two R) (hG one two)) i ≤ dnP (k + 1) R (sk two i) := Nat.le_of_dvd (dnP_pos (n := k + 1) (R := R) (sk two i)) (cb_dvd fun q hq => by
      obtain ⟨j, hj, rfl⟩ := List.mem_map.mp hq
      exact (hB_sz h n6 i j hi (List.mem_range.mp hj)).2)
    have h2 := dnP_le h n6 (sk two i)
    have h3 : (2 : Nat) ^ 36 < 2 ^ 37 := by decide
    exact upZ_lt (by omega) (hB_sz h n6 i j hi hj).1
  have e1 := gj_det g hc (show k ≤ k + 0 by omega)
  have b1 := det_abs (b := 98) (n := k) (A := cl1 (upM (k + 1) (besQ k (hF k two R) (hG one two))) c fun r => upM (k + 1) (besQ k (hF k two R) (hG one two)) r (k + 0)) (by omega) fun i j hi hj => by
    unfold cl1
    split
    · exact up i (k + 0) hi (by omega)
    · exact up i j hi (by omega)
  have b2 := det_abs (b := 98) (n := k) (A := upM (k + 1) (besQ k (hF k two R) (hG one two))) (by omega) fun i j hi hj => up i j hi (by omega)
  have le : 2 ^ (k * (98 + 3)) < 2 ^ 510 := Nat.pow_lt_pow_right (by decide) (by
    have : k * (98 + 3) ≤ 5 * (98 + 3) := Nat.mul_le_mul_right _ (by omega)
    omega)
  unfold slvQ
  rw [e1]
  exact Bq.sz_div g.det (by omega) (by omega)
theorem hgt_sz {k one two : Nat} {R : Nat → Nat → Rat} (h : Bnds (k + 1) R) (n6 : k + 1 ≤ 6) (ht : two < k + 1) {j : Nat} (hj : j < k + 1) : Bq.Sz 510 (hgt k one two R j) := by
  by_cases c : j = two
  · rw [c, hgt_two]
    exact Bq.Sz.zero.mono (by omega)
  · obtain ⟨r, hr, rfl⟩ := sk_of hj ht c
    rw [hgt_sk]
    exact slv_sz h n6 ht hr
theorem bn_lo {n : Nat} {R : Nat → Nat → Rat} (h : Bnds n R) : LoI n (fun _ => true) R :=
  ⟨fun i j _ _ _ _ => (h.wt i j).1, fun a b ha hb _ _ => (h.con a b ha hb).mono fun x y e => ⟨⟨e.1, rfl⟩, ⟨e.2.1, rfl⟩, e.2.2⟩⟩
end Kx
/-! Double sums; numbers over one bottom; what heights cost. Plain mathematics. -/
namespace Bw
def s1 (n : Nat) (f : Nat → Rat) : Rat := Bq.sumQ ((List.range n).map f)
theorem s1_zero (f : Nat → Rat) : s1 0 f = 0 := rfl
theorem s1_succ (n : Nat) (f : Nat → Rat) : s1 (n + 1) f = s1 n f + f n := by
  unfold s1
  rw [List.range_succ, List.map_append]
  exact Bq.sum_snoc _ _
theorem s1_congr {f g : Nat → Rat} : ∀ {n : Nat}, (∀ j, j < n → f j = g j) → s1 n f = s1 n g
  | 0, _ => rfl
  | n + 1, h => by rw [s1_succ, s1_succ, s1_congr (n := n) fun j hj => h j (by omega), h n (by omega)]
theorem s1_add (f g : Nat → Rat) : ∀ n, s1 n (fun j => f j + g j) = s1 n f + s1 n g
  | 0 => by rw [s1_zero, s1_zero, s1_zero]; grind
  | n + 1 => by rw [s1_succ, s1_succ, s1_succ, s1_add f g n]; grind
theorem s1_mul (c : Rat) (f : Nat → Rat) : ∀ n, s1 n (fun j => c * f j) = c * s1 n f
  | 0 => by rw [s1_zero, s1_zero]; grind
  | n + 1 => by rw [s1_succ, s1_succ, s1_mul c f n]; grind
theorem s1_nil : ∀ n, s1 n (fun _ => 0) = 0
  | 0 => rfl
  | n + 1 => by rw [s1_succ, s1_nil n]; grind
theorem s1_one {a : Nat} (v : Rat) : ∀ n, s1 n (fun j => if j = a then v else 0) = if a < n then v else 0
  | 0 => by rw [s1_zero, if_neg (Nat.not_lt_zero a)]
  | n + 1 => by
    rw [s1_succ, s1_one v n]
    by_cases c : n = a
    · subst c
      rw [if_neg (Nat.lt_irrefl n), if_pos rfl, if_pos (Nat.lt_succ_self n)]
      grind
    · rw [if_neg c]
      by_cases d : a < n
      · rw [if_pos d, if_pos (show a < n + 1 by omega)]
        grind
      · rw [if_neg d, if_neg (show ¬ a < n + 1 by omega)]
        grind
theorem s1_nonneg {f : Nat → Rat} : ∀ {n : Nat}, (∀ j, j < n → 0 ≤ f j) → 0 ≤ s1 n f
  | 0, _ => Rat.le_refl
  | n + 1, h => by
    have h1 := s1_nonneg (n := n) fun j hj => h j (by omega)
    have h2 := h n (by omega)
    rw [s1_succ]
    grind
theorem s1_null {f : Nat → Rat} : ∀ {n : Nat}, (∀ j, j < n → 0 ≤ f j) → s1 n f = 0 → ∀ j, j < n → f j = 0
  | 0, _, _, j, hj => absurd hj (Nat.not_lt_zero j)
  | n + 1, h, e, j, hj => by
    have h1 := s1_nonneg (n := n) fun j hj => h j (by omega)
    have h2 := h n (by omega)
    rw [s1_succ] at e
    by_cases c : j = n
    · rw [c]
      grind
    · exact s1_null (n := n) (fun j hj => h j (by omega)) (by grind) j (by omega)
theorem sS_s1 (n : Nat) (h : Nat → Rat) : sS n (fun _ => true) h = s1 n h := by
  unfold sS s1
  rw [List.filter_eq_self.mpr fun _ _ => rfl]
theorem s1_swap (f : Nat → Nat → Rat) (m : Nat) : ∀ n, s1 n (fun i => s1 m (f i)) = s1 m (fun j => s1 n fun i => f i j)
  | 0 => (s1_nil m).symm
  | n + 1 => by
    rw [s1_succ, s1_swap f m n, ← s1_add]
    exact s1_congr fun j _ => (s1_succ n fun i => f i j).symm
/-- all pairs; each pair once, either way -/
def dS (n : Nat) (f : Nat → Nat → Rat) : Rat := s1 n fun i => s1 n (f i)
def lS (n : Nat) (f : Nat → Nat → Rat) : Rat := s1 n fun i => s1 i (f i)
def uS (n : Nat) (f : Nat → Nat → Rat) : Rat := s1 n fun i => s1 n fun j => if i < j then f i j else 0
theorem dS_succ (n : Nat) (f : Nat → Nat → Rat) : dS (n + 1) f = dS n f + s1 n (fun i => f i n) + s1 n (f n) + f n n := by
  unfold dS
  rw [s1_succ, s1_succ]
  have : s1 n (fun i => s1 (n + 1) (f i)) = s1 n (fun i => s1 n (f i) + f i n) := s1_congr fun i _ => s1_succ n (f i)
  rw [this, s1_add]
  grind
theorem lS_succ (n : Nat) (f : Nat → Nat → Rat) : lS (n + 1) f = lS n f + s1 n (f n) := s1_succ _ _
theorem uS_succ (n : Nat) (f : Nat → Nat → Rat) : uS (n + 1) f = uS n f + s1 n (fun i => f i n) := by
  unfold uS
  rw [s1_succ]
  have e1 : s1 n (fun i => s1 (n + 1) fun j => if i < j then f i j else 0) = s1 n (fun i => (s1 n fun j => if i < j then f i j else 0) + f i n) := s1_congr fun i hi => by rw [s1_succ, if_pos hi]
  have e2 : (s1 (n + 1) fun j => if n < j then f n j else 0) = s1 (n + 1) fun _ => 0 := s1_congr fun j hj => if_neg (by omega)
  rw [e1, e2, s1_nil, s1_add]
  grind
theorem dS_split (f : Nat → Nat → Rat) : ∀ n, dS n f = uS n f + lS n f + s1 n fun i => f i i
  | 0 => by
    show (0 : Rat) = 0 + 0 + 0
    grind
  | n + 1 => by
    rw [dS_succ, dS_split f n, uS_succ, lS_succ, s1_succ]
    grind
theorem uS_lS {f : Nat → Nat → Rat} : ∀ {n : Nat}, (∀ i j, i < n → j < n → f i j = f j i) → uS n f = lS n f
  | 0, _ => rfl
  | n + 1, h => by
    rw [uS_succ, lS_succ, uS_lS (n := n) fun i j hi hj => h i j (by omega) (by omega), s1_congr (n := n) fun i hi => h i n (by omega) (by omega)]
theorem dS_swap (f : Nat → Nat → Rat) (n : Nat) : dS n f = dS n fun i j => f j i := s1_swap f n n
theorem lS_congr {f g : Nat → Nat → Rat} {n : Nat} (h : ∀ i j, i < n → j < i → f i j = g i j) : lS n f = lS n g := s1_congr fun i hi => s1_congr fun j hj => h i j hi hj
theorem uS_congr {f g : Nat → Nat → Rat} {n : Nat} (h : ∀ i j, i < n → j < n → i < j → f i j = g i j) : uS n f = uS n g := s1_congr fun i hi => s1_congr fun j hj => by
  by_cases c : i < j
  · rw [if_pos c, if_pos c, h i j hi hj c]
  · rw [if_neg c, if_neg c]
/-- what goes out at a place, by heights -/
def outQ (n : Nat) (R : Nat → Nat → Rat) (h : Nat → Rat) (i : Nat) : Rat := s1 n fun j => R i j * (h i - h j)
/-- the cost of two heights together -/
def csQ (R : Nat → Nat → Rat) (g h : Nat → Rat) (i j : Nat) : Rat := R i j * ((g i - g j) * (h i - h j))
theorem cost_out {n : Nat} {R : Nat → Nat → Rat} (sy : ∀ i j, R i j = R j i) (g h : Nat → Rat) : lS n (csQ R g h) = s1 n fun i => g i * outQ n R h i := by
  have e1 := dS_split (csQ R g h) n
  have e2 : uS n (csQ R g h) = lS n (csQ R g h) := uS_lS fun i j _ _ => by
    unfold csQ
    rw [sy i j]
    grind
  have e3 : (s1 n fun i => csQ R g h i i) = 0 := by
    rw [s1_congr (g := fun _ => 0) fun i _ => by unfold csQ; grind, s1_nil]
  have e4 : dS n (csQ R g h) = dS n (fun i j => g i * (R i j * (h i - h j))) + dS n fun i j => g j * (R j i * (h j - h i)) := by
    unfold dS
    rw [← s1_add]
    refine s1_congr fun i _ => ?_
    rw [← s1_add]
    refine s1_congr fun j _ => ?_
    show R i j * ((g i - g j) * (h i - h j)) = g i * (R i j * (h i - h j)) + g j * (R j i * (h j - h i))
    rw [sy j i]
    grind
  have e5 := dS_swap (fun i j => g i * (R i j * (h i - h j))) n
  have e6 : dS n (fun i j => g i * (R i j * (h i - h j))) = s1 n fun i => g i * outQ n R h i := s1_congr fun i _ => s1_mul (g i) (fun j => R i j * (h i - h j)) n
  have e7 : (fun i j => (fun i j => g i * (R i j * (h i - h j))) j i) = fun i j => g j * (R j i * (h j - h i)) := rfl
  rw [e7] at e5
  rw [← e5, e6, e1, e2, e3] at e4
  grind
/-! ### numbers over one bottom -/
def Cd (D N : Nat) (q : Rat) : Prop := ∃ z : Int, q * ((D : Int) : Rat) = (z : Rat) ∧ z.natAbs ≤ N
theorem Cd.add {D N M : Nat} {p q : Rat} (a : Cd D N p) (b : Cd D M q) : Cd D (N + M) (p + q) := by
  obtain ⟨z, e, h⟩ := a
  obtain ⟨y, f, k⟩ := b
  refine ⟨z + y, ?_, by omega⟩
  rw [Rat.intCast_add, ← e, ← f]
  grind
theorem Cd.sub {D N M : Nat} {p q : Rat} (a : Cd D N p) (b : Cd D M q) : Cd D (N + M) (p - q) := by
  obtain ⟨z, e, h⟩ := a
  obtain ⟨y, f, k⟩ := b
  refine ⟨z - y, ?_, by omega⟩
  rw [Rat.intCast_sub, ← e, ← f]
  grind
theorem Cd.mul {D E N M : Nat} {p q : Rat} (a : Cd D N p) (b : Cd E M q) : Cd (D * E) (N * M) (p * q) := by
  obtain ⟨z, e, h⟩ := a
  obtain ⟨y, f, k⟩ := b
  refine ⟨z * y, ?_, by rw [Int.natAbs_mul]; exact Nat.mul_le_mul h k⟩
  rw [Rat.intCast_mul, ← e, ← f, Int.natCast_mul, Rat.intCast_mul]
  grind
theorem Cd.mono {D N M : Nat} {q : Rat} (a : Cd D N q) (h : N ≤ M) : Cd D M q := by
  obtain ⟨z, e, k⟩ := a
  exact ⟨z, e, by omega⟩
theorem Cd.zero (D : Nat) : Cd D 0 0 := ⟨0, by rw [Rat.intCast_zero]; grind, by decide⟩
theorem Cd.up {D N : Nat} {q : Rat} (a : Cd D N q) (k : Nat) : Cd (D * k) (N * k) q := by
  have h : Cd k k 1 := ⟨(k : Int), by grind, by omega⟩
  have := a.mul h
  rw [Rat.mul_one] at this
  exact this
theorem Cd.of {q : Rat} {N D : Nat} (hd : q.den ∣ D) (h0 : 0 < D) (h : q.num.natAbs ≤ N) : Cd D (N * D) q := by
  obtain ⟨k, rfl⟩ := hd
  have b : Cd q.den N q := ⟨q.num, by
    have e := Bq.num_over q
    rw [Rat.divInt_eq_div] at e
    have d0 : ((q.den : Int) : Rat) ≠ 0 := by
      have := q.den_nz
      exact_mod_cast (show (q.den : Int) ≠ 0 by omega)
    generalize ((q.den : Int) : Rat) = d at *
    generalize (q.num : Rat) = y at *
    grind, h⟩
  refine (b.up k).mono ?_
  have : 1 ≤ q.den := q.den_pos
  have h2 : k ≤ q.den * k := Nat.le_mul_of_pos_left _ this
  exact Nat.mul_le_mul_left _ h2
theorem Cd.sz {D N b : Nat} {q : Rat} (a : Cd D N q) (h0 : 0 < D) (hD : D < 2 ^ b) (hN : N < 2 ^ b) : Bq.Sz b q := by
  obtain ⟨z, e, h⟩ := a
  have d0 : ((D : Int) : Rat) ≠ 0 := by exact_mod_cast (show (D : Int) ≠ 0 by omega)
  have e2 : q = Rat.divInt z (D : Int) := by
    rw [Rat.divInt_eq_div]
    generalize ((D : Int) : Rat) = d at *
    generalize (z : Rat) = y at *
    grind
  rw [e2]
  exact Bq.sz_div (by omega) (by omega) (by omega)
theorem cd_sum {D N : Nat} : ∀ {l : List Rat}, (∀ q ∈ l, Cd D N q) → Cd D (l.length * N) (Bq.sumQ l)
  | [], _ => by
    rw [List.length_nil, Nat.zero_mul]
    exact Cd.zero D
  | q :: l, h => by
    have h1 := cd_sum (l := l) fun x hx => h x (List.mem_cons_of_mem _ hx)
    have h2 := (h q List.mem_cons_self).add h1
    rw [List.length_cons, Nat.succ_mul, Nat.add_comm]
    exact h2
end Bw
set_option exponentiation.threshold 10000
/-! What is left over of places stays short: sizes by heights held at some places. Plain mathematics. -/
namespace Kx
open PySem PySem.Spec PyProof.Rows L2 Bw
theorem cdv {z : Int} {d : Nat} (h : 0 < d) : Cd d z.natAbs (Rat.divInt z (d : Int)) := by
  refine ⟨z, ?_, Nat.le_refl _⟩
  have d0 : ((d : Int) : Rat) ≠ 0 := by exact_mod_cast (show (d : Int) ≠ 0 by omega)
  rw [Rat.divInt_eq_div]
  generalize ((d : Int) : Rat) = x at *
  generalize (z : Rat) = y at *
  grind
theorem wcd {n : Nat} {R : Nat → Nat → Rat} (h : Bnds n R) (n6 : n ≤ 6) : ∃ D, 0 < D ∧ D ≤ 2 ^ 222 ∧ ∀ i j, i < n → j < n → Cd D (2 ^ 20 * D) (R i j) := by
  have p0 : 0 < pP n (dnP n R) := pP_pos fun j _ => dnP_pos (n := n) (R := R) j
  have p1 : pP n (dnP n R) ≤ 2 ^ (n * 37) := pP_lt fun i _ => Nat.lt_of_le_of_lt (dnP_le h n6 i) (by decide)
  refine ⟨pP n (dnP n R), p0, Nat.le_trans p1 (Nat.pow_le_pow_right (by decide) (by omega)), fun i j hi hj => ?_⟩
  have d1 : (R i j).den ∣ dnP n R i := pP_dvd (f := fun j => (R i j).den) hj
  exact Cd.of (Nat.dvd_trans d1 (pP_dvd (f := dnP n R) hi)) p0 (Nat.le_of_lt (wt_sz (h.wt i j)).1)
theorem sZ_rat (g : Nat → Int) : ∀ n, ((sZ n g : Int) : Rat) = s1 n fun k => (g k : Rat)
  | 0 => rfl
  | n + 1 => by
    rw [s1_succ, ← sZ_rat g n]
    show ((sZ n g + g n : Int) : Rat) = _
    rw [Rat.intCast_add]
section
variable {n : Nat} {R : Nat → Nat → Rat} {S : Nat → Bool}
/-- rows of one at those held, the places' own rows elsewhere; behind, a mark at one -/
def hxA (n : Nat) (S : Nat → Bool) (R : Nat → Nat → Rat) (t r c : Nat) : Int := if c < n then (if S r = true then (if c = r then 1 else 0) else lap n (mf (scM n R)) r c) else if r = t then 1 else 0
theorem hx_in {t r c : Nat} (hc : c < n) (hr : S r = true) : hxA n S R t r c = if c = r then 1 else 0 := by
  unfold hxA
  rw [if_pos hc, if_pos hr]
theorem hx_out {t r c : Nat} (hc : c < n) (hr : ¬ S r = true) : hxA n S R t r c = lap n (mf (scM n R)) r c := by
  unfold hxA
  rw [if_pos hc, if_neg hr]
theorem hx_mark {t r : Nat} : hxA n S R t r n = if r = t then 1 else 0 := by
  unfold hxA
  rw [if_neg (Nat.lt_irrefl n)]
theorem hx_pos (bn : Bnds n R) {i j : Nat} (hi : i < n) (hj : j < n) (p : 0 < R i j) : 0 < mf (scM n R) i j := by
  have e := scN_eq bn (i := i) hj
  rw [scM_at hi hj]
  have q : 0 < R i j * fQ (dnP n R i) := Rat.mul_pos p (fQ_pos (dnP_pos (n := n) (R := R) i))
  rw [← e] at q
  exact Nat.pos_of_ne_zero fun z => by
    rw [z] at q
    exact absurd q (by decide)
theorem hx_gd (bn : Bnds n R) {s : Nat} (hs : s < n) (ss : S s = true) (t : Nat) : Gd n (hxA n S R t) := by
  have one : ∀ i, i < n → S i = true → sZ n (hxA n S R t i) = 1 := fun i hi si => by
    rw [sZ_one (a := i) hi fun j hj h => by rw [hx_in hj si, if_neg h], hx_in hi si, if_pos rfl]
  have nil : ∀ i, i < n → ¬ S i = true → sZ n (hxA n S R t i) = 0 := fun i hi si => by
    rw [sZ_congr (g := lap n (mf (scM n R)) i) fun j hj => hx_out hj si, lap_zero n _ i hi]
  refine ⟨fun i j hi hj ne => ?_, fun i hi => ?_, fun i hi => ?_⟩
  · by_cases c : S i = true
    · rw [hx_in hj c, if_neg (fun z => ne z.symm)]
      exact Int.le_refl _
    · rw [hx_out hj c, lap_off ne]
      omega
  · by_cases c : S i = true
    · rw [one i hi c]
      decide
    · rw [nil i hi c]
      exact Int.le_refl _
  · have main : ∀ b, Reach (fun x y => x < n ∧ y < n ∧ 0 < R x y) i b → Out n (hxA n S R t) b → Out n (hxA n S R t) i := fun b r => by
      induction r with
      | refl => exact id
      | step r0 e ih =>
        rename_i x y
        intro o
        refine ih ?_
        by_cases c : S x = true
        · exact .done e.1 (by rw [one x e.1 c]; decide)
        · by_cases d : x = y
          · rw [d]
            exact o
          · refine .step e.1 e.2.1 d ?_ o
            have := hx_pos bn e.1 e.2.1 e.2.2
            rw [hx_out e.2.1 c, lap_off d]
            omega
    exact main s (bn.con i s hi hs) (.done hs (by rw [one s hs ss]; decide))
/-- heights, one at a place held and nil at the others held, that nothing goes out of elsewhere -/
theorem hx (bn : Bnds n R) (n6 : n ≤ 6) {t : Nat} (ht : t < n) (st : S t = true) : ∃ (D : Nat) (f : Nat → Rat), 0 < D ∧ D ≤ 2 ^ 384 ∧ f t = 1 ∧ (∀ r, r < n → S r = true → r ≠ t → f r = 0) ∧ (∀ r, r < n → ¬ S r = true → s1 n (fun k => R r k * (f r - f k)) = 0) ∧ ∀ r, r < n → Cd D (2 ^ 384) (f r) := by
  have g := hx_gd (S := S) bn ht st t
  have wk := sc_wk bn (by omega) n6
  have ab : ∀ i j, i < n → j < n + 1 → (hxA n S R t i j).natAbs < 2 ^ 61 := fun i j hi hj => by
    have p1 : (1 : Nat) < 2 ^ 61 := by decide
    by_cases c : j < n
    · by_cases d : S i = true
      · rw [hx_in c d]
        split <;> omega
      · rw [hx_out c d]
        have h1 := wk.rs_lt hi
        have h3 := wk.k i j hi c
        show ((if i = j then ((sN n (mf (scM n R) i) : Nat) : Int) else 0) - (mf (scM n R) i j : Int)).natAbs < 2 ^ 61
        have p3 : 2 ^ (56 + 3) ≤ 2 ^ 61 := pow_le (by omega)
        have p4 : 2 ^ 56 ≤ 2 ^ (56 + 3) := pow_le (by omega)
        split <;> omega
    · rw [show j = n by omega, hx_mark]
      split <;> omega
  have le : 2 ^ (n * (61 + 3)) ≤ 2 ^ 384 := Nat.pow_le_pow_right (by decide) (by omega)
  have b2 := det_abs (b := 61) (n := n) (A := hxA n S R t) (by omega) fun i j hi hj => ab i j hi (by omega)
  have dp := g.det
  obtain ⟨D, eD⟩ : ∃ D : Nat, det n (hxA n S R t) = (D : Int) := ⟨_, (Int.toNat_of_nonneg (by omega)).symm⟩
  have D0 : 0 < D := by omega
  have d0 : ((D : Int) : Rat) ≠ 0 := by exact_mod_cast (show (D : Int) ≠ 0 by omega)
  have fe : ∀ z : Int, Rat.divInt z (D : Int) * ((D : Int) : Rat) = (z : Rat) := fun z => by
    rw [Rat.divInt_eq_div]
    generalize ((D : Int) : Rat) = x at *
    generalize (z : Rat) = y at *
    grind
  have sol := fun r (hr : r < n) => gj_solves g hr (Nat.le_refl n)
  have fin : ∀ r, r < n → S r = true → gj (hxA n S R t) n r n = if r = t then (D : Int) else 0 := fun r hr sr => by
    have e := sol r hr
    rw [sZ_one (a := r) hr fun j hj h => by rw [hx_in hj sr, if_neg h, Int.mul_zero], hx_in hr sr, if_pos rfl, Int.mul_one, hx_mark, eD] at e
    rw [e]
    split <;> simp
  refine ⟨D, fun r => Rat.divInt (gj (hxA n S R t) n r n) (D : Int), D0, by omega, ?_, fun r hr sr ne => ?_, fun r hr sr => ?_, fun r hr => ?_⟩
  · show Rat.divInt (gj (hxA n S R t) n t n) (D : Int) = 1
    rw [fin t ht st, if_pos rfl]
    have := fe (D : Int)
    generalize Rat.divInt (D : Int) (D : Int) = x at *
    generalize ((D : Int) : Rat) = y at *
    grind
  · show Rat.divInt (gj (hxA n S R t) n r n) (D : Int) = 0
    rw [fin r hr sr, if_neg ne]
    exact Rat.zero_divInt _
  · have rt : r ≠ t := fun z => sr (by rw [z]; exact st)
    have e := sol r hr
    rw [hx_mark, if_neg rt, Int.mul_zero] at e
    have e2 : ((sZ n (fun k => gj (hxA n S R t) n k n * hxA n S R t r k) : Int) : Rat) = 0 := by
      rw [e]
      rfl
    rw [sZ_rat] at e2
    have f0 := fQ_ne (dnP_pos (n := n) (R := R) r)
    have cst : ∀ x : Nat, (((x : Nat) : Int) : Rat) = fQ x := fun x => Rat.intCast_natCast x
    have lp : ∀ k, k < n → ((hxA n S R t r k : Int) : Rat) = ((if r = k then s1 n (R r) else 0) - R r k) * fQ (dnP n R r) := fun k hk => by
      rw [hx_out hk sr]
      show (((if r = k then ((sN n (mf (scM n R) r) : Nat) : Int) else 0) - (mf (scM n R) r k : Int) : Int) : Rat) = _
      rw [Rat.intCast_sub, cst, scM_at hr hk, scN_eq bn hk]
      by_cases c : r = k
      · rw [if_pos c, if_pos c, cst, sc_sum bn hr]
        show s1 n (R r) * _ - _ = _
        grind
      · rw [if_neg c, if_neg c, Rat.intCast_zero]
        grind
    have e3 : (s1 n fun k => ((gj (hxA n S R t) n k n * hxA n S R t r k : Int) : Rat)) = s1 n fun k => (((D : Int) : Rat) * fQ (dnP n R r)) * ((if k = r then s1 n (R r) * Rat.divInt (gj (hxA n S R t) n r n) (D : Int) else 0) + (-1) * (R r k * Rat.divInt (gj (hxA n S R t) n k n) (D : Int))) := s1_congr fun k hk => by
      rw [Rat.intCast_mul, ← fe (gj (hxA n S R t) n k n), lp k hk]
      by_cases c : r = k
      · subst c
        rw [if_pos rfl, if_pos rfl]
        grind
      · rw [if_neg c, if_neg fun z => c z.symm]
        grind
    rw [e3, s1_mul, s1_add, s1_one, if_pos hr, s1_mul] at e2
    rcases Rat.mul_eq_zero.mp e2 with z | z
    · rcases Rat.mul_eq_zero.mp z with y | y
      · exact absurd y d0
      · exact absurd y f0
    · have e4 : s1 n (fun k => R r k * (Rat.divInt (gj (hxA n S R t) n r n) (D : Int) - Rat.divInt (gj (hxA n S R t) n k n) (D : Int))) = s1 n fun k => Rat.divInt (gj (hxA n S R t) n r n) (D : Int) * R r k + (-1) * (R r k * Rat.divInt (gj (hxA n S R t) n k n) (D : Int)) := s1_congr fun k _ => by grind
      show s1 n (fun k => R r k * (Rat.divInt (gj (hxA n S R t) n r n) (D : Int) - Rat.divInt (gj (hxA n S R t) n k n) (D : Int))) = 0
      rw [e4, s1_add, s1_mul, s1_mul]
      have e5 : (s1 n fun k => R r k) = s1 n (R r) := rfl
      rw [e5]
      grind
  · have e1 := gj_det g hr (Nat.le_refl n)
    have b1 := det_abs (b := 61) (n := n) (A := cl1 (hxA n S R t) r fun r => hxA n S R t r n) (by omega) fun i j hi hj => by
      unfold cl1
      split
      · exact ab i n hi (by omega)
      · exact ab i j hi (by omega)
    rw [← e1] at b1
    exact (cdv D0).mono (Nat.le_trans b1 le)
end
section
variable {n : Nat} {keep : Nat → Bool} {F : Nat → Nat → Rat}
theorem lo_harm2 (h0 : LoI n (fun _ => true) F) {k : Nat} (hk : k < n) (kk : keep k = true) {f : Nat → Rat} :
    ∀ g, g ≤ n → (∀ i, i < g → ¬ keep i = true → sS n (fun _ => true) (fun j => F i j * (f i - f j)) = 0) → ∀ i, i < n → remB keep g i = true → sS n (remB keep g) (fun j => loQ n keep F g i j * (f i - f j)) = sS n (fun _ => true) (fun j => F i j * (f i - f j))
  | 0, _, _, i, _, _ => sS_congr (fun j _ => by unfold remB; simp) fun _ _ _ => rfl
  | g + 1, hg, hf, i, hi, hr => by
    have ih := lo_harm2 h0 hk kk g (by omega) fun i hi => hf i (by omega)
    by_cases c : keep g = true
    · rw [lo_succ_keep c, ← ih i hi (by rw [← rem_keep c]; exact hr)]
      exact sS_congr (fun j _ => rem_keep c j) fun _ _ _ => rfl
    · rw [lo_succ_out c, ← ih i hi (rem_up hr)]
      have w := lo_whole h0 hk kk (show g < n by omega) c
      refine el_harm (by omega) (rem_out c) (rem_split c) (by grind) ?_
      rw [ih g (by omega) (rem_self keep g)]
      exact hf g (by omega) c
theorem lo_rows (h0 : LoI n (fun _ => true) F) {k : Nat} (hk : k < n) (kk : keep k = true) :
    ∀ g, g ≤ n → ∀ i, i < n → remB keep g i = true → sS n (remB keep g) (loQ n keep F g i) = sS n (fun _ => true) (F i)
  | 0, _, i, _, _ => sS_congr (fun j _ => by unfold remB; simp) fun _ _ _ => rfl
  | g + 1, hg, i, hi, hr => by
    have ih := lo_rows h0 hk kk g (by omega)
    by_cases c : keep g = true
    · rw [lo_succ_keep c, ← ih i hi (by rw [← rem_keep c]; exact hr)]
      exact sS_congr (fun j _ => rem_keep c j) fun _ _ _ => rfl
    · rw [lo_succ_out c, ← ih i hi (rem_up hr)]
      have w := lo_whole h0 hk kk (show g < n by omega) c
      rw [sS_split (rem_out c) (rem_split c) (loQ n keep F g i) n, if_pos (show g < n by omega)]
      have e1 : sS n (remB keep (g + 1)) (elQ (sS n (remB keep (g + 1)) (loQ n keep F g g)) g (loQ n keep F g) i) = sS n (remB keep (g + 1)) (fun j => 1 * loQ n keep F g i j + (loQ n keep F g i g / sS n (remB keep (g + 1)) (loQ n keep F g g)) * loQ n keep F g g j) := sS_congr (fun _ _ => rfl) fun j _ _ => by
        unfold elQ
        generalize sS n (remB keep (g + 1)) (loQ n keep F g g) = w0
        grind
      rw [e1, sS_lin]
      have e2 : (sS n (remB keep (g + 1)) fun j => loQ n keep F g g j) = sS n (remB keep (g + 1)) (loQ n keep F g g) := rfl
      have e3 : (sS n (remB keep (g + 1)) fun j => loQ n keep F g i j) = sS n (remB keep (g + 1)) (loQ n keep F g i) := rfl
      rw [e2, e3]
      generalize sS n (remB keep (g + 1)) (loQ n keep F g g) = w0 at *
      grind
theorem sS_pick {p : Nat → Bool} {a : Nat} (v : Rat) : ∀ n, sS n p (fun j => if j = a then v else 0) = if a < n ∧ p a = true then v else 0
  | 0 => by
    rw [sS_zero, if_neg (by omega)]
  | n + 1 => by
    rw [sS_succ, sS_pick v n]
    by_cases c : n = a
    · subst c
      rw [if_neg (by omega), if_pos rfl]
      by_cases d : p n = true
      · rw [if_pos d, if_pos ⟨Nat.lt_succ_self n, d⟩]
        grind
      · rw [if_neg d, if_neg fun z => d z.2]
        grind
    · rw [if_neg c]
      have e : (a < n + 1 ∧ p a = true) ↔ (a < n ∧ p a = true) := ⟨fun z => ⟨by omega, z.2⟩, fun z => ⟨by omega, z.2⟩⟩
      by_cases d : a < n ∧ p a = true
      · rw [if_pos d, if_pos (e.mpr d)]
        split <;> grind
      · rw [if_neg d, if_neg fun z => d (e.mp z)]
        split <;> grind
/-- what is left over is short -/
theorem lo_bd {R : Nat → Nat → Rat} (bn : Bnds n R) (n6 : n ≤ 6) {k : Nat} (hk : k < n) (kk : keep k = true) {g : Nat} (hg : g ≤ n) {i j : Nat} (hi : i < n) (hj : j < n) (ri : remB keep g i = true) (rj : remB keep g j = true) : Bq.Sz 660 (loQ n keep R g i j) := by
  obtain ⟨P, P0, P1, hP⟩ := wcd bn n6
  obtain ⟨D, f, D0, D1, ft, fn, fh, fc⟩ := hx (S := remB keep g) bn n6 hj rj
  have har := lo_harm2 (bn_lo bn) hk kk (f := f) g hg fun x hx nx => by
    rw [sS_s1]
    refine fh x (by omega) fun z => ?_
    unfold remB at z
    rw [Bool.or_eq_true, decide_eq_true_eq] at z
    rcases z with z | z
    · exact nx z
    · omega
  have hi' := har i hi ri
  rw [sS_s1] at hi'
  have base : Cd (P * D) (6 * (2 ^ 20 * P * (D + 2 ^ 384))) (s1 n fun x => R i x * (f i - f x)) := by
    have one : Cd D D 1 := ⟨(D : Int), by grind, by omega⟩
    have fi : ∀ x, x < n → Cd D (D + 2 ^ 384) (f i - f x) := fun x hx => by
      by_cases c : i = j
      · rw [c, ft]
        exact one.sub (fc x hx)
      · rw [fn i hi ri c]
        exact ((Cd.zero D).sub (fc x hx)).mono (by omega)
    have := cd_sum (D := P * D) (N := 2 ^ 20 * P * (D + 2 ^ 384)) (l := (List.range n).map fun x => R i x * (f i - f x)) fun q hq => by
      obtain ⟨x, hx, rfl⟩ := List.mem_map.mp hq
      have hx' := List.mem_range.mp hx
      exact (hP i x hi hx').mul (fi x hx')
    rw [List.length_map, List.length_range] at this
    exact this.mono (Nat.mul_le_mul_right _ n6)
  rw [← hi'] at base
  have row : Cd (P * D) (6 * (2 ^ 20 * P) * D) (s1 n (R i)) := by
    have := cd_sum (D := P) (N := 2 ^ 20 * P) (l := (List.range n).map (R i)) fun q hq => by
      obtain ⟨x, hx, rfl⟩ := List.mem_map.mp hq
      exact hP i x hi (List.mem_range.mp hx)
    rw [List.length_map, List.length_range] at this
    exact (this.mono (Nat.mul_le_mul_right _ n6)).up D
  have rs := lo_rows (bn_lo bn) hk kk g hg i hi ri
  rw [sS_s1] at rs
  have pd : P * D < 2 ^ 660 := Nat.lt_of_le_of_lt (Nat.mul_le_mul P1 D1) (by decide +kernel)
  have pn : 6 * (2 ^ 20 * P) * D + 6 * (2 ^ 20 * P * (D + 2 ^ 384)) < 2 ^ 660 := by
    have a1 : 6 * (2 ^ 20 * P) * D ≤ 6 * (2 ^ 20 * 2 ^ 222) * 2 ^ 384 := Nat.mul_le_mul (Nat.mul_le_mul_left _ (Nat.mul_le_mul_left _ P1)) D1
    have a2 : 6 * (2 ^ 20 * P * (D + 2 ^ 384)) ≤ 6 * (2 ^ 20 * 2 ^ 222 * (2 ^ 384 + 2 ^ 384)) := Nat.mul_le_mul_left _ (Nat.mul_le_mul (Nat.mul_le_mul_left _ P1) (Nat.add_le_add_right D1 _))
    exact Nat.lt_of_le_of_lt (Nat.add_le_add a1 a2) (by decide +kernel)
  by_cases c : i = j
  · subst c
    have e : sS n (remB keep g) (fun x => loQ n keep R g i x * (f i - f x)) = sS n (remB keep g) (loQ n keep R g i) - loQ n keep R g i i := by
      have e1 : sS n (remB keep g) (fun x => loQ n keep R g i x * (f i - f x)) = sS n (remB keep g) (fun x => 1 * loQ n keep R g i x + (-1) * (if x = i then loQ n keep R g i i else 0)) := sS_congr (fun _ _ => rfl) fun x hx px => by
        by_cases d : x = i
        · rw [d, if_pos rfl]
          grind
        · rw [if_neg d, ft, fn x hx px d]
          grind
      rw [e1, sS_lin, sS_pick, if_pos ⟨hi, ri⟩]
      have e3 : (sS n (remB keep g) fun x => loQ n keep R g i x) = sS n (remB keep g) (loQ n keep R g i) := rfl
      rw [e3]
      grind
    rw [e, rs] at base
    have fin := row.sub base
    have e4 : s1 n (R i) - (s1 n (R i) - loQ n keep R g i i) = loQ n keep R g i i := by grind
    rw [e4] at fin
    exact fin.sz (Nat.mul_pos P0 D0) pd pn
  · have e : sS n (remB keep g) (fun x => loQ n keep R g i x * (f i - f x)) = - loQ n keep R g i j := by
      have e1 : sS n (remB keep g) (fun x => loQ n keep R g i x * (f i - f x)) = sS n (remB keep g) (fun x => if x = j then - loQ n keep R g i j else 0) := sS_congr (fun _ _ => rfl) fun x hx px => by
        by_cases d : x = j
        · rw [d, if_pos rfl, ft, fn i hi ri c]
          grind
        · rw [if_neg d, fn x hx px d, fn i hi ri c]
          grind
      rw [e1, sS_pick, if_pos ⟨hj, rj⟩]
    rw [e] at base
    have fin := (Cd.zero (P * D)).sub base
    have e4 : (0 : Rat) - - loQ n keep R g i j = loQ n keep R g i j := by grind
    rw [e4] at fin
    exact (fin.mono (by omega)).sz (N := 6 * (2 ^ 20 * P) * D + 6 * (2 ^ 20 * P * (D + 2 ^ 384))) (Nat.mul_pos P0 D0) pd pn
end
end Kx
set_option exponentiation.threshold 10000
/-! The law leaves places out one by one, but some. -/
namespace Kx
open PySem PySem.Spec PyProof.Rows L2 Bw
abbrev s_law_left_out : Stmt := topS 55
abbrev n_law_left_out : List Str := ["bonds", "keep", "many", "rows", "row", "gone", "here_on", "at", "whole", "here", "there", "part"]
theorem c_law_left_out : FnScope n_law_left_out ["bonds", "keep"] (defScope s_law_left_out) :=
  ⟨rfl, rfl, rfl, by decide +kernel, rfl, by decide +kernel, by decide +kernel⟩

def keepB (ks : List Nat) (x : Nat) : Bool := ks.any fun k => decide (x = k)
theorem inV_nats (x : Nat) : ∀ ks : List Nat, inV (.int (x : Nat)) (nats ks) = keepB ks x
  | [] => rfl
  | k :: ks => by
    show (eqV (.int (k : Nat)) (.int (x : Nat)) || inV (.int (x : Nat)) (nats ks)) = (decide (x = k) || keepB ks x)
    rw [inV_nats x ks]
    congr 1
    show ((k : Int) == (x : Int)) = decide (x = k)
    by_cases c : x = k
    · rw [c]
      simp
    · rw [decide_eq_false c]
      simp
      omega
theorem flat_nats : ∀ ks : List Nat, (nats ks).all flatV = true
  | [] => rfl
  | k :: ks => flat_nats ks
/-- the rows of a table, each as a list -/
theorem lc_rows {J : It} {n : Nat} {xs : List V} {G : Hp → Prop} {Y : Nat → Hp → V → Hp → Prop} (w : Walk J xs.length G Y) {te : TE} {vs : List Nat} {σ : L2.St} {jx : Nat} {H : Hp} {D : Addr} {Qd : Hp → Prop} {W : Addr → Prop} {R : Nat → Nat → Rat}
    (hG : ∀ H', Same H H' → G H') (hY : ∀ i H' x H'', Y i H' x H'' → H'' = H' ∧ xs[i]? = some x)
    (el : DqAll W H xs ((tabF n R).map rowD)) (n6 : n ≤ 100) (nD : H D = none) (hw : ∀ x : V, wipe ((wipe σ vs).set jx (some x)) vs = wipe σ vs)
    (hte : ∀ (H2 : Hp) (Q : VK) (p : Addr) (ys : List V), H2 p = some (.tup ys) → (∀ l, H2 l = none → Q (.ref l) (upd H2 l (.lst ys))) → te ((wipe σ vs).set jx (some (.ref p))) H2 Q)
    (hq : ∀ H1 rs, MatH H H1 D rs n R → Qd H1) :
    ∃ W : Nat → Nat → Hp → Prop, (∃ m, W 0 m (upd H D (.lst []))) ∧ ∀ i m H, W i m H →
      (J.stop i H ∧ Qd H) ∨ (J.go i H ∧ ∃ Nx : Hp → Prop, (∀ H', Nx H' → ∃ m', m' < m ∧ W (i + 1) m' H') ∧ ∀ x H', J.yld i H x H' → gName jx x (wipe σ vs) H' fun σ2 H2 => wipe σ2 vs = wipe σ vs ∧ tYes σ2 H2 fun b H3 =>
        if b = true then te σ2 H3 fun y H4 => ∃ acc, H4 D = some (.lst acc) ∧ acc.length < sizeLine ∧ Nx (upd H4 D (.lst (acc ++ [y]))) else Nx H3) := by
  have xl : xs.length = n := by
    have := el.length
    unfold tabF at this
    simpa using this
  refine lc_it w (fun i H' => Same H H' ∧ ∃ rs : List Addr, H' D = some (.lst (rs.map V.ref)) ∧ rs.length = i ∧ (∀ (i j : Nat) r, rs[i]? = some r → rs[j]? = some r → i = j) ∧
        ∀ (k : Nat) r, rs[k]? = some r → H r = none ∧ r ≠ D ∧ ∃ ys, H' r = some (.lst ys) ∧ ys.length = n ∧ ∀ (j : Nat) v, ys[j]? = some v → FrA H' v (R k j))
      ⟨same_new nD, [], upd_same, rfl, fun i j r e => by simp at e, fun k r e => by simp at e⟩ (fun i H' _ p => hG H' p.1) ?_ ?_
  · rintro i x H1' H1 hi ⟨s1, rs, eD, hl, nd, hrs⟩ hy
    obtain ⟨rfl, hx⟩ := hY _ _ _ _ hy
    refine ⟨hw x, ?_⟩
    unfold tYes
    refine ifT rfl ?_
    unfold tabF at el
    obtain ⟨hin, dx⟩ := tab_at el hx
    obtain ⟨b, ys, rfl, nb, eb, er⟩ := (dx.keep (Kp.same s1)).tupI
    have yl : ys.length = n := by
      have := er.length
      simpa using this
    refine hte _ _ b ys eb fun l nl => ?_
    have s2 : Same H1 (upd H1 l (.lst ys)) := same_new nl
    have lD : l ≠ D := Ne.symm (ne_of_none eD nl)
    have el2 : (upd H1 l (.lst ys)) l = some (.lst ys) := upd_same
    have l0 : H l = none := s1.free nl
    have fy : ∀ (j : Nat) v, ys[j]? = some v → FrA (upd H1 l (.lst ys)) v (R i j) := fun j v e => (dq_frA (row_at er e).2).same s2
    have nin : ∀ (c : Nat), rs[c]? ≠ some l := fun c ec => by
      obtain ⟨_, _, zs, h3, _⟩ := hrs c l ec
      rw [nl] at h3
      cases h3
    generalize upd H1 l (.lst ys) = H2 at s2 el2 fy
    have eD2 := s2 _ _ eD
    have nt : ∀ xs, H2 D ≠ some (.tup xs) := fun xs => by
      rw [eD2]
      exact fun z => nomatch z
    refine ⟨_, eD2, by rw [List.length_map]; exact sz63' (by omega), same_mut (s1.trans s2) nD, rs ++ [l], by rw [upd_same, List.map_append]; rfl, by rw [List.length_append, hl]; rfl, fun a b x ea eb => ?_, fun k r e => ?_⟩
    · have la := (List.getElem?_eq_some_iff.mp ea).1
      have lb := (List.getElem?_eq_some_iff.mp eb).1
      rw [List.length_append, List.length_singleton] at la lb
      by_cases ca : a < rs.length
      · rw [List.getElem?_append_left ca] at ea
        by_cases cb : b < rs.length
        · rw [List.getElem?_append_left cb] at eb
          exact nd a b x ea eb
        · rw [List.getElem?_append_right (by omega), show b - rs.length = 0 by omega] at eb
          have : l = x := by simpa using eb
          rw [← this] at ea
          exact absurd ea (nin a)
      · rw [List.getElem?_append_right (by omega), show a - rs.length = 0 by omega] at ea
        have hx : l = x := by simpa using ea
        by_cases cb : b < rs.length
        · rw [List.getElem?_append_left cb, ← hx] at eb
          exact absurd eb (nin b)
        · omega
    · have lk := (List.getElem?_eq_some_iff.mp e).1
      rw [List.length_append, List.length_singleton] at lk
      by_cases ck : k < rs.length
      · rw [List.getElem?_append_left ck] at e
        obtain ⟨g1, g2, zs, g3, g4, g5⟩ := hrs k r e
        exact ⟨g1, g2, zs, by rw [upd_ne g2]; exact s2 _ _ g3, g4, fun j v ev => ((g5 j v ev).same s2).frame nt⟩
      · rw [List.getElem?_append_right (by omega), show k - rs.length = 0 by omega] at e
        have hx : l = r := by simpa using e
        subst hx
        have hk : k = i := by omega
        rw [hk]
        exact ⟨l0, lD, ys, by rw [upd_ne lD]; exact el2, yl, fun j v ev => (fy j v ev).frame nt⟩
  · rintro H1 ⟨s1, rs, eD, hl, nd, hrs⟩
    exact hq H1 rs ⟨s1, eD, by omega, nd, fun i r e => (hrs i r e).2.2, nD, fun r hr => by
      obtain ⟨k, hk⟩ := List.mem_iff_getElem?.mp hr
      exact ⟨(hrs k r hk).1, (hrs k r hk).2.1⟩⟩
section
variable {P : Program} {w : World} {K : PySem.W.Frag} {mg : Str → Option Value} {base : Heap}
/-- what may be left out of: weights; all stages short -/
structure LoOk (n : Nat) (R : Nat → Nat → Rat) (ks : List Nat) : Prop where
  n6 : n ≤ 6
  i0 : LoI n (fun _ => true) R
  lt : ∀ k ∈ ks, k < n
  one : ∃ k, k < n ∧ keepB ks k = true
  zb : ∀ g, g ≤ n → ∀ i j, i < n → j < n → remB (keepB ks) g i = true → remB (keepB ks) g j = true → Bq.Sz 660 (loQ n (keepB ks) R g i j)
def spLeft (K : PySem.W.Frag) : Sp := fun vs H Q _ => ∃ (W : Addr → Prop) (v : V) (ka : Addr) (n : Nat) (R : Nat → Nat → Rat) (ks : List Nat), vs = [v, .ref ka] ∧ Dq W H v (tabD (tabF n R)) ∧ SqT K H ka (nats ks) ∧ LoOk n R ks ∧
  ∀ D rs R' H', Same H H' → MatH H H' D rs n R' → (∀ i j, i < n → j < n → keepB ks i = true → keepB ks j = true → R' i j = loQ n (keepB ks) R n i j) → Q (.ref D) H'
theorem ok_lleft {f : Addr} {fd : FuncData} (F : Fun K "_law_left_out" "_law_left_out" s_law_left_out f fd) (M : Mb mg) (Dlaw_total : Df P w K mg base 3 "_law_total" ["parts"] (spSum K (SqL K))) (Dlaw_over : Df P w K mg base 2 "_law_over" ["here", "there"] (spOver K))
    (Dlaw_times : Df P w K mg base 2 "_law_times" ["here", "there"] (spTimes K)) (Dlaw_plus : Df P w K mg base 2 "_law_plus" ["here", "there"] (spPlus K)) :
    FnOk P w K mg base CX0 4 f fd ["bonds", "keep"] (spLeft K) := by
  refine F.ok c_law_left_out (fun vs H Q E h => ?_) (fun cdv A outer s H vs Q E hr h => ?_)
  · obtain ⟨_, v, ka, n, R, ks, rfl, _⟩ := h
    rfl
  · obtain ⟨W, v, ka, n, R, ks, rfl, hd, hk, ok, q⟩ := h
    refine ⟨_, (pss_cons (ps_asg (pe_tup (pa_cons (pe_callB call_len_seq (by rfl) M.len (by decide +kernel) (pa_cons (pv 0) pa_nil)) (pa_cons (pe_lc (own := [("row", 4)]) rfl c_law_left_out.nd (pi_tup (pv 0)) (blkOk_by (own := [("row", 4)]) (N := n_law_left_out) (sc := defScope s_law_left_out) (by decide +kernel)) (fun _ _ _ _ _ => (pg_name (i := 4) c_law_left_out.nd rfl (.inl rfl))) (fun _ _ _ _ _ => pts_nil) (fun _ _ _ _ _ => (pe_callTy (call_lstK (K := K) rfl) (by rfl) M.list (by decide +kernel) (pa_cons (pv 4) pa_nil)))) pa_nil))) (pg_tup rfl (pgs_cons (pg_name (i := 2) c_law_left_out.nd rfl (.inl rfl)) (pgs_cons (pg_name (i := 3) c_law_left_out.nd rfl (.inr rfl)) pgs_nil))))
 (pss_cons (ps_for PassesOwn.never rfl (pi_range1 (by rfl) M.range (pa_cons (pv 2) pa_nil)) (pg_name (i := 5) c_law_left_out.nd rfl (.inr rfl))
 (pss_one (ps_if (pt_cmpR op_notIn_seq (pv 5) (pv 1) (by rfl))
 (pss_cons (ps_setLc (i := 6) (own := [("at", 7)]) rfl c_law_left_out.nd rfl rfl (sw_true rfl rfl rfl (by decide +kernel)) (pi_range1 (by rfl) M.range (pa_cons (pv 2) pa_nil)) (blkOk_by (own := [("at", 7)]) (N := n_law_left_out) (sc := defScope s_law_left_out) (by decide +kernel)) (fun _ _ _ _ _ => (pg_name (i := 7) c_law_left_out.nd rfl (.inl rfl))) (fun _ _ _ _ _ => (pts_one (PW.pt (pw_or (pt_cmpR (op_inK (K := K) rfl) (pv 7) (pv 1) (by rfl)) (pw_or1 (pt_cmpR op_gt (pv 7) (pv 5) (nomark _))))))) (fun _ _ _ _ _ => (pv 7)))
 (pss_cons (ps_set (i := 8) c_law_left_out.nd rfl (.inl rfl) (pe_call Dlaw_total.G (hr.mono (by first | decide | omega)) rfl Dlaw_total.g Dlaw_total.kp Dlaw_total.b .nil pass0 (pa_cons (pe_lc (own := [("at", 7)]) rfl c_law_left_out.nd (pi_list (pv 6)) (blkOk_by (own := [("at", 7)]) (N := n_law_left_out) (sc := defScope s_law_left_out) (by decide +kernel)) (fun _ _ _ _ _ => (pg_name (i := 7) c_law_left_out.nd rfl (.inl rfl))) (fun _ _ _ _ _ => pts_nil) (fun _ _ _ _ _ => (pe_ix (ix_listK (K := K) rfl) (pe_ix (ix_listK (K := K) rfl) (pv 3) (pv 5) (fun _ _ => rfl)) (pv 7) (fun _ _ => rfl)))) pa_nil)))
 (pss_one (ps_for PassesOwn.never rfl (pi_list (pv 6)) (pg_name (i := 9) c_law_left_out.nd rfl (.inl rfl))
 (pss_one (ps_for PassesOwn.never rfl (pi_list (pv 6)) (pg_name (i := 10) c_law_left_out.nd rfl (.inl rfl))
 (pss_cons (ps_set (i := 11) c_law_left_out.nd rfl (.inl rfl) (pe_call Dlaw_over.G (hr.mono (by first | decide | omega)) rfl Dlaw_over.g Dlaw_over.kp Dlaw_over.b .nil pass0 (pa_cons (pe_call Dlaw_times.G (hr.mono (by first | decide | omega)) rfl Dlaw_times.g Dlaw_times.kp Dlaw_times.b .nil pass0 (pa_cons (pe_ix ix_list (pe_ix ix_list (pv 3) (pv 9) (fun _ _ => rfl)) (pv 5) (fun _ _ => rfl)) (pa_cons (pe_ix ix_list (pe_ix ix_list (pv 3) (pv 5) (fun _ _ => rfl)) (pv 10) (fun _ _ => rfl)) pa_nil))) (pa_cons (pv 8) pa_nil))))
 (pss_one (ps_asg (pe_call Dlaw_plus.G (hr.mono (by first | decide | omega)) rfl Dlaw_plus.g Dlaw_plus.kp Dlaw_plus.b .nil pass0 (pa_cons (pe_ix ix_list (pe_ix ix_list (pv 3) (pv 9) (fun _ _ => rfl)) (pv 10) (fun _ _ => rfl)) (pa_cons (pv 11) pa_nil))) (pg_sub (pe_ix ix_list (pv 3) (pv 9) (fun _ _ => rfl)) (pv 10) set_list))))))))))
 pss_nil)))
 (pss_one (ps_ret (pv 3))))), ?_⟩
    obtain ⟨a, xs, rfl, na, ea, el⟩ := hd.tupI
    have n6 := ok.n6
    have xl : xs.length = n := by
      have := el.length
      unfold tabF at this
      simpa using this
    obtain ⟨k0, k0n, k0k⟩ := ok.one
    refine ⟨_, rfl, a, xs, rfl, .inr (.of ea), ?_⟩
    refine ⟨_, rfl, a, rfl, ⟨xs, .of ea⟩, fun D nD => lc_rows (walk_tup (K := K) (a := a) (xs := xs)) (n := n) (R := R) (fun H' s' => .of (s' _ _ ea)) (fun i H' x H'' y => y) el (by omega) nD (fun _ => rfl)
      (fun H2 Q p ys ep q' => ⟨_, rfl, p, ys, rfl, .inr (.of ep), q'⟩) fun H1 rs m1 => ?_⟩
    refine ⟨sz63 (by show 2 ≤ 1000; decide), fun p np => ⟨p, _, rfl, .of upd_same, rfl, _, _, rfl, _, _, rfl, rfl, ?_⟩⟩
    have m2 := m1.grow (same_new (o := .tup [.int (xs.length : Nat), .ref D]) np)
    rw [xl] at m2 ⊢
    generalize upd H1 p (.tup [.int (n : Nat), .ref D]) = H2 at m2 ⊢
    clear m1 np
    refine ⟨_, rfl, _, rfl, by omega, by omega, ?_⟩
    refine for_range (lo := 0) (n := n) (fun g σ H' => ∃ R' y4 y5 y6 y7 y8 y9 y10 y11, σ = [some (.ref a), some (.ref ka), some (.int (n : Nat)), some (.ref D), y4, y5, y6, y7, y8, y9, y10, y11] ∧ MatH H H' D rs n R' ∧ ∀ i j, i < n → j < n → remB (keepB ks) g i = true → remB (keepB ks) g j = true → R' i j = loQ n (keepB ks) R g i j)
      ⟨_, _, _, _, _, _, _, _, _, rfl, m2, fun _ _ _ _ _ _ => rfl⟩ ?_ ?_
    · clear m2
      rintro g σ H3 hg ⟨R3, y4, y5, y6, y7, y8, y9, y10, y11, rfl, m3, T3⟩
      have e0 : (0 : Int) + ((g : Nat) : Int) = ((g : Nat) : Int) := by omega
      rw [e0]
      have hk3 := same_tup m3.s hk
      refine ⟨_, rfl, _, rfl, ka, nats ks, rfl, .inr hk3, rfl, flat_nats ks, _, rfl, ite2 (fun c => ?_) (fun c => ?_)⟩
      · have kg : ¬ keepB ks g = true := by
          rw [if_pos rfl, inV_nats] at c
          simpa using c
        refine ⟨_, rfl, _, rfl, by omega, by omega, fun O nO => ?_⟩
        refine lc_filtR (n := n) (remB (keepB ks) (g + 1)) nO (by omega) (fun x _ => rfl) (fun x => rfl) ?_ ?_
        · rintro i H4 T hi s4 nO4 q4
          refine ⟨_, rfl, _, rfl, ka, nats ks, rfl, .inr (same_tup s4 hk3), rfl, flat_nats ks, _, rfl, ite2 (fun c2 => ?_) (fun c2 => ?_)⟩
          · rw [if_neg Bool.false_ne_true, inV_nats] at c2
            have e : remB (keepB ks) (g + 1) i = true := by
              unfold remB
              rw [c2]
              rfl
            have := q4 H4 (.refl _)
            rw [e] at this
            exact this
          · rw [if_neg Bool.false_ne_true, inV_nats] at c2
            refine ⟨_, rfl, _, rfl, _, _, rfl, rfl, _, rfl, ?_⟩
            have e : remB (keepB ks) (g + 1) i = decide ((g : Int) < (i : Int)) := by
              unfold remB
              simp at c2
              rw [c2, Bool.false_or]
              exact decide_eq_decide.mpr (by omega)
            have := q4 H4 (.refl _)
            rw [e] at this
            exact this
        · rintro H4 s4 eO
          have m4 := m3.grow s4
          have hk4 := same_tup s4 hk3
          have hOr : O ∉ rs := fun z => by
            obtain ⟨k, hk⟩ := List.mem_iff_getElem?.mp z
            obtain ⟨ys, e1, _⟩ := m3.row k O hk
            rw [nO] at e1
            cases e1
          have hOD : O ≠ D := fun z => by
            have := m3.eD
            rw [← z, nO] at this
            cases this
          -- facts of the step
          have I := lo_inv (keep := keepB ks) ok.i0 k0n k0k g (by omega)
          have wp := lo_whole ok.i0 k0n k0k hg kg
          have zs := ok.zb g (by omega)
          have es := el_sz zs (fun j hj => rem_up hj) hg (rem_self (keepB ks) g) rfl wp
          have l1 := ln_out (n := n) hg kg
          have l3 := lnR_le n (remB (keepB ks) g)
          have Se : sS n (remB (keepB ks) (g + 1)) (loQ n (keepB ks) R g g) = Bq.sumQ (((List.range n).filter (remB (keepB ks) (g + 1))).map (loQ n (keepB ks) R g g)) := rfl
          have ln : ((List.range n).filter (remB (keepB ks) (g + 1))).length = lnR n (remB (keepB ks) (g + 1)) := rfl
          have nd : ((List.range n).filter (remB (keepB ks) (g + 1))).Nodup := List.nodup_range.filter _
          have Sm : ∀ x, x ∈ (List.range n).filter (remB (keepB ks) (g + 1)) ↔ x < n ∧ remB (keepB ks) (g + 1) x = true := fun x => by
            rw [List.mem_filter, List.mem_range]
          have rg := rem_self (keepB ks) g
          have ro := rem_out kg
          have ru : ∀ j, remB (keepB ks) (g + 1) j = true → remB (keepB ks) g j = true := fun j hj => rem_up hj
          have Ls := lo_succ_out (n := n) (F := R) kg
          generalize hw0 : sS n (remB (keepB ks) (g + 1)) (loQ n (keepB ks) R g g) = w0 at *
          generalize (List.range n).filter (remB (keepB ks) (g + 1)) = S at *
          generalize lnR n (remB (keepB ks) (g + 1)) = m at *
          have m5 : m ≤ 5 := by omega
          have Sl : (S.map fun i : Nat => V.int i).length = m := by rw [List.length_map, ln]
          refine ⟨_, rfl, O, rfl, ⟨_, .of eO⟩, fun D2 nD2 => lc_rel (walk_list (K := K) (a := O) (xs := S.map fun i : Nat => V.int i)) No
            (fun H' i y => ∃ t, S[i]? = some t ∧ ∃ p, y = .ref p ∧ p ≠ D2 ∧ H' p = some (.tup [.int (loQ n (keepB ks) R g g t).num, .int (loQ n (keepB ks) R g g t).den]))
            (fun H H' i v k r => ?_) nD2 (fun _ z => z.elim) (by omega) (fun H' k' => .of (no_same k' _ _ eO)) ?_ ?_⟩
          · obtain ⟨t, e, p, rfl, ne, hp⟩ := r
            exact ⟨t, e, p, rfl, ne, k _ _ (fun z => z.elim id ne) hp⟩
          · rintro i x H5 _ Q' hi k5 nD5 ⟨rfl, hx⟩ q'
            obtain ⟨t, et, rfl⟩ := map_some hx
            have s5 := no_same k5
            have m5' := m4.grow s5
            obtain ⟨tn, tq⟩ := (Sm t).mp (List.mem_of_getElem? et)
            obtain ⟨r, xr, er, exr, xrl, xra⟩ := m5'.at hg
            have ev : xr[t]? = some (xr[t]'(by omega)) := List.getElem?_eq_getElem (by omega)
            obtain ⟨p, ep, hp⟩ := xra t _ ev
            rw [ep] at ev
            rw [T3 g t hg tn rg (ru t tq)] at hp
            refine ⟨rfl, _, rfl, _, rfl, D, _, (g : Int), .ref r, rfl, rfl, .of m5'.eD, atI_nat (by rw [List.getElem?_map, er]; rfl), _, rfl, r, xr, (t : Int), .ref p, rfl, rfl, .of exr, atI_nat ev, ?_⟩
            refine q' _ _ (Kp.refl _) ⟨t, et, p, rfl, fun z => ?_, hp⟩
            rw [z] at hp
            have h4 := (m4.at hg)
            obtain ⟨r', xr', er', exr', xrl', xra'⟩ := h4
            rw [er] at er'
            obtain rfl := Option.some.inj er'
            have h5 := s5 _ _ exr'
            rw [exr] at h5
            cases h5
            obtain ⟨p', ep', hp'⟩ := xra' t _ ev
            obtain rfl := V.ref.inj ep'
            rw [z, nD2] at hp'
            cases hp'
          · rintro H5 acc k5 eD5 hla ha
            have s5 := no_same k5
            rw [Sl] at hla
            refine ⟨D2, acc, S.map (loQ n (keepB ks) R g g), 660, rfl, .of eD5, ⟨by rw [hla, List.length_map, ln], fun i v qq e1 e2 => ?_⟩, fun qq hq => ?_, by rw [List.length_map, ln]; omega, fun vg H6 s6 dg => ?_⟩
            · obtain ⟨t, et, p, rfl, _, hp⟩ := ha i v e1
              rw [List.getElem?_map, et] at e2
              obtain rfl := Option.some.inj e2
              exact ⟨p, rfl, .of hp⟩
            · obtain ⟨t, ht, rfl⟩ := List.mem_map.mp hq
              obtain ⟨tn, tq⟩ := (Sm t).mp ht
              exact zs g t hg tn rg (ru t tq)
            · rw [← Se] at dg
              have fg : FrA H6 vg w0 := dq_frA dg
              have s56 := s5.trans s6
              have m6 := m4.grow s56
              have eO6 := s56 _ _ eO
              have T6 : Tel n (remB (keepB ks) g) S (elQ w0 g (loQ n (keepB ks) R g)) (loQ n (keepB ks) R g) 0 0 R3 := Tel.start T3
              clear dg s56 s5 s6 m4 ha k5 eD5 eO
              refine ⟨_, rfl, O, rfl, ⟨_, .of eO6⟩, ?_⟩
              refine for_list (K := K) (a := O) (xs := S.map fun i : Nat => V.int i) (fun u σ H' => ∃ R' y7 y9 y10 y11, σ = [some (.ref a), some (.ref ka), some (.int (n : Nat)), some (.ref D), y4, some (.int (g : Nat)), some (.ref O), y7, some vg, y9, y10, y11] ∧ MatH H H' D rs n R' ∧ H' O = some (.lst (S.map fun i : Nat => V.int i)) ∧ FrA H' vg w0 ∧
                  Tel n (remB (keepB ks) g) S (elQ w0 g (loQ n (keepB ks) R g)) (loQ n (keepB ks) R g) u 0 R')
                ⟨_, _, _, _, _, rfl, m6, eO6, fg, T6⟩ (fun i σ H' _ ⟨_, _, _, _, _, _, _, e, _⟩ => .of e) ?_ ?_
              · clear m6 eO6 fg T6
                rintro u x σ H7 hx ⟨R7, y7', y9', y10', y11', rfl, m7, eO7, fg7, T7⟩
                obtain ⟨h, eh, rfl⟩ := map_some hx
                obtain ⟨hn, hq⟩ := (Sm h).mp (List.mem_of_getElem? eh)
                refine ⟨_, rfl, O, rfl, ⟨_, .of eO7⟩, ?_⟩
                refine for_list (K := K) (a := O) (xs := S.map fun i : Nat => V.int i) (fun u2 σ H' => ∃ R' y7 y10 y11, σ = [some (.ref a), some (.ref ka), some (.int (n : Nat)), some (.ref D), y4, some (.int (g : Nat)), some (.ref O), y7, some vg, some (.int (h : Nat)), y10, y11] ∧ MatH H H' D rs n R' ∧ H' O = some (.lst (S.map fun i : Nat => V.int i)) ∧ FrA H' vg w0 ∧
                    Tel n (remB (keepB ks) g) S (elQ w0 g (loQ n (keepB ks) R g)) (loQ n (keepB ks) R g) u u2 R')
                  ⟨_, _, _, _, rfl, m7, eO7, fg7, T7⟩ (fun i σ H' _ ⟨_, _, _, _, _, _, e, _⟩ => .of e) ?_ ?_
                · clear m7 eO7 fg7 T7
                  rintro u2 x σ H8 hx2 ⟨R8, y7'', y10'', y11'', rfl, m8, eO8, fg8, T8⟩
                  obtain ⟨t, et, rfl⟩ := map_some hx2
                  obtain ⟨tn, tq⟩ := (Sm t).mp (List.mem_of_getElem? et)
                  have gS : g ∉ S := fun z => by
                    have := ((Sm g).mp z).2
                    rw [ro] at this
                    cases this
                  have eR1 := T8.off hn hg (ru h hq) rg (.inr gS)
                  have eR2 := T8.off hg tn rg (ru t tq) (.inl gS)
                  have eR3 := T8.at nd eh et hn tn (ru h hq) (ru t tq)
                  obtain ⟨r, xr, er, exr, xrl, xra⟩ := m8.at hn
                  obtain ⟨rg', xg, erg, exg, xgl, xga⟩ := m8.at hg
                  have ev : xr[g]? = some (xr[g]'(by omega)) := List.getElem?_eq_getElem (by omega)
                  have ev2 : xg[t]? = some (xg[t]'(by omega)) := List.getElem?_eq_getElem (by omega)
                  have ev3 : xr[t]? = some (xr[t]'(by omega)) := List.getElem?_eq_getElem (by omega)
                  have fv := xra g _ ev
                  have fv2 := xga t _ ev2
                  have fv3 := xra t _ ev3
                  rw [eR1] at fv
                  rw [eR2] at fv2
                  rw [eR3] at fv3
                  generalize xr[g]'(by omega) = v at ev fv
                  generalize xg[t]'(by omega) = v2 at ev2 fv2
                  generalize xr[t]'(by omega) = v3 at ev3 fv3
                  have z1 := zs h g hn hg (ru h hq) rg
                  have z2 := zs g t hg tn rg (ru t tq)
                  have z3 := zs h t hn tn (ru h hq) (ru t tq)
                  obtain ⟨zz1, zz2, zz3⟩ := es.2 h t hn tn (ru h hq) (ru t tq)
                  have ee : elQ w0 g (loQ n (keepB ks) R g) h t = loQ n (keepB ks) R g h t + loQ n (keepB ks) R g h g * loQ n (keepB ks) R g g t / w0 := rfl
                  refine ⟨_, rfl, _, rfl, D, _, (h : Int), .ref r, rfl, rfl, .of m8.eD, atI_nat (by rw [List.getElem?_map, er]; rfl), _, rfl, r, xr, (g : Int), v, rfl, rfl, .of exr, atI_nat ev, ?_⟩
                  refine ⟨_, rfl, _, rfl, D, _, (g : Int), .ref rg', rfl, rfl, .of m8.eD, atI_nat (by rw [List.getElem?_map, erg]; rfl), _, rfl, rg', xg, (t : Int), v2, rfl, rfl, .of exg, atI_nat ev2, ?_⟩
                  refine ⟨v, v2, _, _, 660, 660, rfl, fv.fr, fv2.fr, z1, z2, by omega, fun b nb => ?_⟩
                  generalize loQ n (keepB ks) R g h g * loQ n (keepB ks) R g g t = g1 at zz1 zz2 ee ⊢
                  have s1 : Same H8 (upd H8 b (.tup [.int g1.num, .int g1.den])) := same_new nb
                  have m9 := m8.grow s1
                  have f1 : FrA (upd H8 b (.tup [.int g1.num, .int g1.den])) (.ref b) g1 := ⟨b, rfl, upd_same⟩
                  have fg9 := fg8.same s1
                  have fv9 := fv3.same s1
                  have exr9 := s1 _ _ exr
                  have eO9 := s1 _ _ eO8
                  generalize upd H8 b (.tup [.int g1.num, .int g1.den]) = H9 at m9 f1 fg9 fv9 exr9 eO9 ⊢
                  refine ⟨_, rfl, .ref b, vg, _, _, 660 + 660, 1 + m * (660 + 1), rfl, f1.fr, fg9.fr, zz1, es.1, by omega, wp, fun b2 nb2 => ?_⟩
                  generalize g1 / w0 = g2 at zz2 ee ⊢
                  have s2 : Same H9 (upd H9 b2 (.tup [.int g2.num, .int g2.den])) := same_new nb2
                  have m10 := m9.grow s2
                  have f2 : FrA (upd H9 b2 (.tup [.int g2.num, .int g2.den])) (.ref b2) g2 := ⟨b2, rfl, upd_same⟩
                  have fg10 := fg9.same s2
                  have fv10 := fv9.same s2
                  have exr10 := s2 _ _ exr9
                  have eO10 := s2 _ _ eO9
                  generalize upd H9 b2 (.tup [.int g2.num, .int g2.den]) = H10 at m10 f2 fg10 fv10 exr10 eO10 ⊢
                  refine ⟨_, rfl, _, rfl, D, _, (h : Int), .ref r, rfl, rfl, .of m10.eD, atI_nat (by rw [List.getElem?_map, er]; rfl), _, rfl, r, xr, (t : Int), v3, rfl, rfl, .of exr10, atI_nat ev3, _, rfl, ?_⟩
                  refine ⟨v3, .ref b2, _, _, 660, 660 + 660 + (1 + m * (660 + 1)), rfl, fv10.fr, f2.fr, z3, zz2, by omega, fun b3 nb3 => ?_⟩
                  rw [← ee]
                  generalize hcc : elQ w0 g (loQ n (keepB ks) R g) h t = cc at ee ⊢
                  have s3 : Same H10 (upd H10 b3 (.tup [.int cc.num, .int cc.den])) := same_new nb3
                  have m11 := m10.grow s3
                  have fc : FrA (upd H10 b3 (.tup [.int cc.num, .int cc.den])) (.ref b3) cc := ⟨b3, rfl, upd_same⟩
                  have fg11 := fg10.same s3
                  have exr11 := s3 _ _ exr10
                  have eO11 := s3 _ _ eO10
                  generalize upd H10 b3 (.tup [.int cc.num, .int cc.den]) = H11 at m11 fc fg11 exr11 eO11 ⊢
                  refine ⟨_, rfl, _, rfl, D, _, (h : Int), .ref r, rfl, rfl, .of m11.eD, atI_nat (by rw [List.getElem?_map, er]; rfl), _, rfl, r, xr, (t : Int), t, rfl, rfl, exr11, ixNat (by omega), ?_⟩
                  have nt : ∀ xs, H11 r ≠ some (.tup xs) := fun xs => by
                    rw [exr11]
                    exact fun z => nomatch z
                  have ner : O ≠ r := fun z => hOr (by rw [z]; exact List.mem_of_getElem? er)
                  have T9 := T8.set nd eh et
                  rw [hcc] at T9
                  exact ⟨_, _, _, _, rfl, m11.set (b := t) er exr11 fc, by rw [upd_ne ner]; exact eO11, fg11.frame nt, T9⟩
                · rintro σ H8 ⟨R8, y7'', y10'', y11'', rfl, m8, eO8, fg8, T8⟩
                  rw [List.length_map] at T8
                  exact ⟨_, _, _, _, _, rfl, m8, eO8, fg8, T8.next eh⟩
              · rintro σ H7 ⟨R7, y7', y9', y10', y11', rfl, m7, eO7, fg7, T7⟩
                rw [List.length_map] at T7
                refine ⟨R7, _, _, _, _, _, _, _, _, rfl, m7, fun i j hi hj pi pj => ?_⟩
                rw [Ls]
                exact T7.done hi hj (ru i pi) (ru j pj) ((Sm i).mpr ⟨hi, pi⟩) ((Sm j).mpr ⟨hj, pj⟩)
      · have kg : keepB ks g = true := by
          rw [if_pos rfl, inV_nats] at c
          simpa using c
        refine ⟨R3, _, _, _, _, _, _, _, _, rfl, m3, fun i j hi hj pi pj => ?_⟩
        rw [lo_succ_keep kg]
        rw [rem_keep kg] at pi pj
        exact T3 i j hi hj pi pj
    · rintro σ H3 ⟨R3, y4, y5, y6, y7, y8, y9, y10, y11, rfl, m3, T3⟩
      exact ⟨_, rfl, q D rs R3 H3 m3.s m3 fun i j hi hj ki kj => T3 i j hi hj (by rw [rem_end hi]; exact ki) (by rw [rem_end hj]; exact kj)⟩
end
end Kx
set_option exponentiation.threshold 10000
/-! How far two places are apart, by the law; two drawn places. -/
namespace Kx
open PySem PySem.Spec PyProof.Rows L2 Bw
abbrev s_law_far : Stmt := topS 56
abbrev n_law_far : List Str := ["bonds", "top", "low"]
theorem c_law_far : FnScope n_law_far ["bonds", "top", "low"] (defScope s_law_far) :=
  ⟨rfl, rfl, rfl, by decide +kernel, rfl, by decide +kernel, by decide +kernel⟩

abbrev s_law_ends : Stmt := topS 57
abbrev n_law_ends : List Str := ["well", "many", "top", "low"]
theorem c_law_ends : FnScope n_law_ends ["well", "many"] (defScope s_law_ends) :=
  ⟨rfl, rfl, rfl, by decide +kernel, rfl, by decide +kernel, by decide +kernel⟩

section
variable {P : Program} {w : World} {K : PySem.W.Frag} {mg : Str → Option Value} {base : Heap}
theorem keep2 (xa xb x : Nat) : keepB [xa, xb] x = (decide (x = xa) || decide (x = xb)) := by
  unfold keepB
  simp
theorem far_pos {n xa xb : Nat} {R : Nat → Nat → Rat} (ok : LoOk n R [xa, xb]) (ne : xa ≠ xb) : 0 < loQ n (keepB [xa, xb]) R n xa xb := by
  refine (two_left ok.i0 (ok.lt xa (by simp)) (ok.lt xb (by simp)) ne (keep2 xa xb) (f := fun _ => 0) fun i _ _ _ => ?_).2.2
  have e : (fun j => R i j * ((0 : Rat) - 0)) = fun j => (0 : Rat) * R i j + 0 * R i j := by
    funext j
    grind
  show sS n _ (fun j => R i j * ((0 : Rat) - 0)) = 0
  rw [e, sS_lin]
  grind
def spFar (K : PySem.W.Frag) : Sp := fun vs H Q _ => ∃ (W : Addr → Prop) (v : V) (n : Nat) (R : Nat → Nat → Rat) (xa xb : Nat), vs = [v, .int (xa : Nat), .int (xb : Nat)] ∧ Dq W H v (tabD (tabF n R)) ∧ (xa ≠ xb → LoOk n R [xa, xb]) ∧
  ∀ v' H', Same H H' → Dq (Old H) H' v' (frD (if xa = xb then 0 else 1 / loQ n (keepB [xa, xb]) R n xa xb)) → Q v' H'
theorem ok_lfar {f : Addr} {fd : FuncData} (F : Fun K "_law_far" "_law_far" s_law_far f fd) (M : Mb mg) (Dlaw_left_out : Df P w K mg base 4 "_law_left_out" ["bonds", "keep"] (spLeft K)) (Dlaw_over : Df P w K mg base 2 "_law_over" ["here", "there"] (spOver K)) :
    FnOk P w K mg base CX0 5 f fd ["bonds", "top", "low"] (spFar K) := by
  refine F.ok c_law_far (fun vs H Q E h => ?_) (fun cdv A outer s H vs Q E hr h => ?_)
  · obtain ⟨_, v, n, R, xa, xb, rfl, _⟩ := h
    rfl
  · obtain ⟨W, v, n, R, xa, xb, rfl, hd, okk, q⟩ := h
    refine ⟨_, (pss_cons (ps_if (pt_cmpR op_eq (pv 1) (pv 2) (nomark _))
 (pss_one (ps_ret (pe_tup (pa_cons pe_int (pa_cons pe_int pa_nil)))))
 pss_nil)
 (pss_one (ps_ret (pe_call Dlaw_over.G (hr.mono (by first | decide | omega)) rfl Dlaw_over.g Dlaw_over.kp Dlaw_over.b .nil pass0 (pa_cons (pe_tup (pa_cons pe_int (pa_cons pe_int pa_nil))) (pa_cons (pe_ix ix_list (pe_ix ix_list (pe_call Dlaw_left_out.G (hr.mono (by first | decide | omega)) rfl Dlaw_left_out.g Dlaw_left_out.kp Dlaw_left_out.b .nil pass0 (pa_cons (pv 0) (pa_cons (pe_tup (pa_cons (pv 1) (pa_cons (pv 2) pa_nil))) pa_nil))) (pv 1) (fun _ _ => rfl)) (pv 2) (fun _ _ => rfl)) pa_nil)))))), ?_⟩
    refine ⟨_, rfl, _, rfl, rfl, _, rfl, ite2 (fun z => ?_) (fun z => ?_)⟩
    · have e : xa = xb := by
        have := V.int.inj (of_decide_eq_true z)
        omega
      rw [if_pos e] at q
      refine ⟨sz63 (by show 2 ≤ 1000; decide), fun p np => ?_⟩
      exact q _ _ (same_new np) (fr_dq (q := 0) (fun z => z np) upd_same)
    · have ne : xa ≠ xb := fun y => z (by rw [y]; exact decide_eq_true rfl)
      have ok := okk ne
      rw [if_neg ne] at q
      have wp := far_pos ok ne
      have ha : xa < n := ok.lt xa (by simp)
      have hb : xb < n := ok.lt xb (by simp)
      have ka : keepB [xa, xb] xa = true := by rw [keep2]; simp
      have kb : keepB [xa, xb] xb = true := by rw [keep2]; simp
      have zs := ok.zb n (Nat.le_refl _) xa xb ha hb (by rw [rem_end ha]; exact ka) (by rw [rem_end hb]; exact kb)
      refine ⟨sz63 (by show 2 ≤ 1000; decide), fun t1 nt1 => ?_⟩
      have s1 : Same H (upd H t1 (.tup [.int 1, .int 1])) := same_new nt1
      have e1 : (upd H t1 (.tup [.int 1, .int 1])) t1 = some (.tup [.int 1, .int 1]) := upd_same
      generalize upd H t1 (.tup [.int 1, .int 1]) = H1 at s1 e1 ⊢
      refine ⟨_, rfl, _, rfl, _, rfl, sz63 (by show 2 ≤ 1000; decide), fun t2 nt2 => ?_⟩
      have s2 : Same H1 (upd H1 t2 (.tup [.int (xa : Nat), .int (xb : Nat)])) := same_new nt2
      have e2 : (upd H1 t2 (.tup [.int (xa : Nat), .int (xb : Nat)])) t2 = some (.tup [.int (xa : Nat), .int (xb : Nat)]) := upd_same
      generalize upd H1 t2 (.tup [.int (xa : Nat), .int (xb : Nat)]) = H2 at s2 e2 ⊢
      refine ⟨W, v, t2, n, R, [xa, xb], rfl, hd.keep (Kp.same (s1.trans s2)), .of e2, ok, fun D rs R' H3 s3 m3 T3 => ?_⟩
      have e := T3 xa xb ha hb ka kb
      obtain ⟨r, xr, er, exr, xrl, xra⟩ := m3.at ha
      have ev : xr[xb]? = some (xr[xb]'(by omega)) := List.getElem?_eq_getElem (by omega)
      have fv := xra xb _ ev
      rw [e] at fv
      generalize xr[xb]'(by omega) = v at ev fv
      generalize loQ n (keepB [xa, xb]) R n xa xb = g at *
      refine ⟨_, rfl, D, _, (xa : Int), .ref r, rfl, rfl, .of m3.eD, atI_nat (by rw [List.getElem?_map, er]; rfl), _, rfl, r, xr, (xb : Int), v, rfl, rfl, .of exr, atI_nat ev, ?_⟩
      have s13 := s2.trans s3
      refine ⟨.ref t1, v, 1, _, 1, 660, rfl, ⟨t1, rfl, .of (s13 _ _ e1)⟩, fv.fr, ⟨by decide, by decide⟩, zs, by omega, wp, fun p np => ?_⟩
      exact q _ _ ((s1.trans s13).trans (same_new np)) (fr_dq (fun z => z ((s1.trans s13).free np)) upd_same)
def spEnds : Sp := fun vs H Q _ => ∃ (w l : Addr) (n : Nat), vs = [.ref w, .int (n : Nat)] ∧ 2 ≤ n ∧ n ≤ 6 ∧ WellAt w l H ∧
  ∀ (H' : Hp) (l' p : Addr) (top low : Nat), top < n → low < n → top ≠ low → Kp (At w) H H' → WellAt w l' H' → (l' = l ∨ H l' = none) → p ≠ w → H' p = some (.tup [.int (top : Nat), .int (low : Nat)]) → Q (.ref p) H'
theorem ok_lends {f : Addr} {fd : FuncData} (F : Fun K "_law_ends" "_law_ends" s_law_ends f fd) (M : Mb mg) (Dlaw_pick : Df P w K mg base 1 "_law_pick" ["well", "limit"] spPickL) :
    FnOk P w K mg base CX0 2 f fd ["well", "many"] spEnds := by
  refine F.ok c_law_ends (fun vs H Q E h => ?_) (fun cdv A outer s H vs Q E hr h => ?_)
  · obtain ⟨w, l, n, rfl, _⟩ := h
    rfl
  · obtain ⟨w, l, n, rfl, n2, n6, hW, q⟩ := h
    refine ⟨_, (pss_cons (ps_set (i := 2) c_law_ends.nd rfl (.inl rfl) (pe_call Dlaw_pick.G (hr.mono (by first | decide | omega)) rfl Dlaw_pick.g Dlaw_pick.kp Dlaw_pick.b .nil pass0 (pa_cons (pv 0) (pa_cons (pv 1) pa_nil))))
 (pss_cons (ps_set (i := 3) c_law_ends.nd rfl (.inl rfl) (pe_call Dlaw_pick.G (hr.mono (by first | decide | omega)) rfl Dlaw_pick.g Dlaw_pick.kp Dlaw_pick.b .nil pass0 (pa_cons (pv 0) (pa_cons (pe_op op_sub (pv 1) pe_int) pa_nil))))
 (pss_one (ps_ret (pe_tup (pa_cons (pv 2) (pa_cons (pe_ifExp (pt_cmpR op_lt (pv 3) (pv 2) (nomark _)) (pv 3) (pe_op op_add (pv 3) pe_int)) pa_nil))))))), ?_⟩
    have up : ∀ {H' H'' : Hp} {a b c : Addr}, (a = l ∨ H a = none) → (b = a ∨ H' b = none) → Kp (At w) H H' → WellAt w b H'' → (b = l ∨ H b = none) := fun {H' H'' a b c} ha hb k W => by
      rcases hb with hb | hb
      · rw [hb]
        exact ha
      · exact .inr (kp_free k hb (by
          obtain ⟨_, _, _, _, e, _⟩ := W
          exact e))
    refine ⟨_, rfl, _, rfl, w, l, _, rfl, by omega, by omega, hW, fun H1 d l1 d0 d1 k1 W1 hl1 => ?_⟩
    obtain ⟨i, rfl⟩ : ∃ i : Nat, d = (i : Int) := ⟨d.toNat, by omega⟩
    refine ⟨_, rfl, _, rfl, _, _, rfl, rfl, w, l1, _, rfl, by omega, by omega, W1, fun H2 e l2 e0 e1 k2 W2 hl2 => ?_⟩
    obtain ⟨j, rfl⟩ : ∃ j : Nat, e = (j : Int) := ⟨e.toNat, by omega⟩
    refine ⟨_, rfl, _, rfl, _, rfl, _, _, rfl, rfl, _, rfl, ite2 (fun c => ?_) (fun c => ?_)⟩
    · have c' : j < i := by
        have := of_decide_eq_true c
        omega
      refine ⟨_, rfl, sz63 (by show 2 ≤ 1000; decide), fun p np => ?_⟩
      exact q _ l2 p i j (by omega) (by omega) (by omega) ((k1.trans k2).trans (Kp.new np)) (W2.new np) (up (c := w) hl1 hl2 k1 W2) (W2.ne np).1 upd_same
    · have c' : ¬ j < i := fun z => c (decide_eq_true (by omega))
      refine ⟨_, rfl, _, _, rfl, rfl, sz63 (by show 2 ≤ 1000; decide), fun p np => ?_⟩
      refine q _ l2 p i (j + 1) (by omega) (by omega) (by omega) ((k1.trans k2).trans (Kp.new np)) (W2.new np) (up (c := w) hl1 hl2 k1 W2) (W2.ne np).1 ?_
      rw [upd_same]
      rfl
end
end Kx
/-! tuple(zip(*rows)) of a row of tuples. -/
namespace Bt
open PySem PySem.Spec PyProof.Rows L2 Bz
open PySem.Sem (wp)
section
variable {prog : Program} {w : World} {A : Around} {E : Value → Shared → Prop} {s : Shared}
/-- the rows, those before j one item further -/
def ItsT (h : Heap) (rs : List Rw) (k j : Nat) : Prop := ∀ m r, rs[m]? = some r → h.IsTupleIter r.it r.l (if m < j then k + 1 else k) ∧ h.IsTuple r.l r.xs

theorem ItsT.but {h h1 : Heap} {rs : List Rw} {k j : Nat} {a : Addr} (s : Heap.SameBut a h h1) (n1 : ∀ r ∈ rs, r.it ≠ a) (n2 : ∀ r ∈ rs, r.l ≠ a) (i : ItsT h rs k j) : ItsT h1 rs k j := fun m r e =>
  have hm := List.mem_of_getElem? e
  ⟨(i m r e).1.extBut s.extBut (n1 r hm), (i m r e).2.extBut s.extBut (n2 r hm)⟩
theorem ItsT.next {z TI TO : Addr} {rs : List Rw} (D : Apart z TI TO rs) {h h1 : Heap} {k j : Nat} {r : Rw} (e : rs[j]? = some r) (i : ItsT h rs k j) (n : h1.IsTupleIter r.it r.l (k + 1)) (s : Heap.SameBut r.it h h1) : ItsT h1 rs k (j + 1) := fun m q eq => by
  have hm := List.mem_of_getElem? eq
  have hr := List.mem_of_getElem? e
  refine ⟨?_, (i m q eq).2.extBut s.extBut (D.ll q hm r hr)⟩
  by_cases c : m = j
  · subst c
    rw [e] at eq
    cases eq
    rw [if_pos (Nat.lt_succ_self _)]
    exact n
  · have := (i m q eq).1.extBut s.extBut (D.nd m j q r eq e c)
    by_cases l : m < j
    · rw [if_pos l] at this
      rw [if_pos (by omega)]
      exact this
    · rw [if_neg l] at this
      rw [if_neg (by omega)]
      exact this
theorem ItsT.done {h : Heap} {rs : List Rw} {k : Nat} (i : ItsT h rs k rs.length) : ItsT h rs (k + 1) 0 := fun m r e => by
  have l := (List.getElem?_eq_some_iff.mp e).1
  have := i m r e
  rw [if_pos l] at this
  rw [if_neg (by omega)]
  exact this

theorem next_item {z TI TO : Addr} {rs : List Rw} {k : Nat} {f0 : Value} {f : Bool} {to : Array Value} {vs : List Value} {Q : Value → Shared → Prop} (D : Apart z TI TO rs) (hn : 0 < rs.length) (hl : rs.length ≤ 1000) (hf : Fld0 f0)
    (hz : ZipO s.heap z TI TO f0 f) (hTI : TupO s.heap TI (rs.map fun r => Value.ref r.it).toArray) (hTO : TupO s.heap TO to) (hto : to.size = rs.length) (hi : ItsT s.heap rs k 0) (hv : Vs rs k vs)
    (hQ : ∀ h' f0' f' to', Fld0 f0' → ZipO h' z TI TO f0' f' → TupO h' TI (rs.map fun r => Value.ref r.it).toArray → TupO h' TO to' → to'.size = rs.length → ItsT h' rs (k + 1) 0 → TupO h' s.heap.objs.size vs.toArray →
      h'.objs.size = s.heap.objs.size + 1 → (∀ c o, c ≠ z → c ≠ TO → (∀ r ∈ rs, c ≠ r.it) → s.heap.get? c = some o → h'.get? c = some o) → Q (.ref s.heap.objs.size) { s with heap := h' }) :
    wpAny (model prog w) A (Builtin.«zip.__next__» ⟨[.ref z], []⟩) (fun fin s' => ∃ v, fin = .done (.ret v) ∧ Q v s') E s := by
  show wpAny _ _ (field (.ref z) 2 >>= _) _ _ _
  refine wpAny_bind (wpAny_field hz rfl (x := .bool false) rfl ?_)
  show wpAny _ _ (field (.ref z) 3 >>= _) _ _ _
  refine wpAny_bind (wpAny_field hz rfl (x := .ref TI) rfl ?_)
  refine wpAny_bind (wpAny_seqItems hTI rfl ?_)
  have ne : (rs.map fun r => Value.ref r.it).toArray.isEmpty = false := by
    cases rs with
    | nil => simp at hn
    | cons r t => rfl
  dsimp only
  rw [ne]
  show wpAny _ _ (Builtin.SmallTypes.ownedTupleIsFree (.ref z) >>= _) _ _ _
  have TIk : ∀ {h h' : Heap}, Kept z TO rs h h' → TupO h TI (rs.map fun r => Value.ref r.it).toArray → TupO h' TI (rs.map fun r => Value.ref r.it).toArray := fun kp e =>
    kp.2 _ _ D.TIz D.TITO (fun r hr => (D.itz r hr).2.1.symm) e
  refine wpAny_bind (owned hf hz fun h1 b f1 hz1 sb1 => ?_)
  have i1 : ItsT h1 rs k 0 := hi.but sb1 (fun r hr => (D.itz r hr).1) fun r hr => (D.lz r hr).1
  have TO1 : TupO h1 TO to := sb1.extBut _ _ D.TOz hTO
  have K1 : Kept z TO rs s.heap h1 := .z sb1
  have hvl := hv.1
  cases b with
  | true =>
    simp only [if_true]
    refine wpAny_bind (wpAny_rule ?_)
    refine wpAny_bind (wpAny_field (s := { s with heap := h1 }) hz1 rfl (x := .ref TO) rfl ?_)
    refine wpAny_bind (wpAny_setField_rec (s := { s with heap := h1 }) hz1 (by simp) fun h2 hz2 sb2 => ?_)
    replace hz2 : ZipO h2 z TI TO .ellipsis f1 := hz2
    have i2 : ItsT h2 rs k 0 := i1.but sb2 (fun r hr => (D.itz r hr).1) fun r hr => (D.lz r hr).1
    have K2 : Kept z TO rs s.heap h2 := K1.trans (.z sb2)
    have TO2 : TupO h2 TO to := sb2.extBut _ _ D.TOz TO1
    refine wpAny_bind (forIn_by (fun j b s' => b = (none, ()) ∧ ∃ h' to', s' = { s with heap := h' } ∧ ZipO h' z TI TO .ellipsis f1 ∧ ItsT h' rs k j ∧ Kept z TO rs s.heap h' ∧ TupO h' TO to' ∧ to'.size = rs.length ∧ ∀ m, m < j → to'[m]? = vs[m]?) _ 0 _ _
      ⟨rfl, h2, to, rfl, hz2, i2, K2, TO2, hto, fun m q => by omega⟩ ?_ ?_)
    · rintro j ⟨x, kk⟩ b s' hj ⟨rfl, h', to', rfl, hz', i', K', TO', st', pre⟩
      rw [Nat.zero_add] at i' pre ⊢
      rw [List.getElem?_zipIdx] at hj
      obtain ⟨r, hr, rfl, rfl⟩ : ∃ r, rs[j]? = some r ∧ x = Value.ref r.it ∧ kk = j := by
        cases e : (rs.map fun r => Value.ref r.it)[j]? with
        | none =>
          have e' : (List.map (fun r => Value.ref r.it) rs).toArray.toList[j]? = none := e
          rw [e'] at hj
          cases hj
        | some y =>
          have e' : (List.map (fun r => Value.ref r.it) rs).toArray.toList[j]? = some y := e
          rw [e'] at hj
          obtain ⟨r, hr, rfl⟩ := map_get e
          have q := Option.some.inj hj
          have q1 := congrArg Prod.fst q
          have q2 := congrArg Prod.snd q
          exact ⟨r, hr, q1.symm, by have : 0 + j = kk := q2; omega⟩
      have hm := List.mem_of_getElem? hr
      obtain ⟨v, hv1, hv2⟩ := hv.2 kk r hr
      obtain ⟨it1, il⟩ := i' kk r hr
      rw [if_neg (Nat.lt_irrefl _)] at it1
      refine wpAny_bind (wpAny_onRaise ?_)
      show wpAny _ _ (Builtin.SmallTypes.nextOf (.ref r.it) >>= _) _ _ _
      refine wpAny_bind (RZ.nextOf_tuple_item (s := { s with heap := h' }) it1 il hv2 fun h3 it3 sb3 => wpAny_pure ?_)
      have TO3 : TupO h3 TO to' := sb3.extBut _ _ (D.itz r hm).2.2.symm TO'
      have hkl := (List.getElem?_eq_some_iff.mp hr).1
      refine wpAny_bind (wpAny_seqItems (s := { s with heap := h3 }) TO3 rfl ?_)
      refine wpAny_bind (wpAny_updateSeq (s := { s with heap := h3 }) TO3 rfl (wpAny_bind (wpAny_letGo (wpAny_pure ⟨_, rfl, rfl, ?_⟩))) (Nat.le_trans (Nat.le_of_eq st') (Bw.sz63 hl)) ?_)
      · have sb4 : Heap.SameBut TO h3 (h3.update TO (Obj.mapSeq fun x => x.setIfInBounds kk v)) := Heap.SameBut.update ..
        refine ⟨_, to'.setIfInBounds kk v, rfl, sb4.extBut _ _ D.TOz.symm (sb3.extBut _ _ (D.itz r hm).1.symm hz'), (i'.next D hr it3 sb3).but sb4 (fun r hr => (D.itz r hr).2.2) (fun r hr => (D.lz r hr).2), (K'.trans (.it hm sb3)).trans (.TO sb4), ?_, ?_, fun m hm2 => ?_⟩
        · show Heap.get? _ _ = _
          rw [Heap.get?_update_self _ TO3 rfl]
          simp [Obj.mapSeq]
        · rw [Array.size_setIfInBounds]
          exact st'
        · by_cases c : kk = m
          · subst c
            rw [Array.getElem?_setIfInBounds_self_of_lt (by omega), hv1]
          · rw [Array.getElem?_setIfInBounds_ne c]
            exact pre m (by omega)
      · rw [Array.size_setIfInBounds, st']
        have := Bw.sz63 hl
        omega
    · rintro b s' ⟨rfl, h', to', rfl, hz', i', K', TO', st', pre⟩
      have hlen : 0 + (List.map (fun r => Value.ref r.it) rs).toArray.toList.zipIdx.length = rs.length := by simp
      rw [hlen] at i' pre
      have tov : to' = vs.toArray := by
        apply Array.ext_getElem?
        intro m
        by_cases c : m < rs.length
        · rw [pre m c]
          simp
        · rw [Array.getElem?_eq_none (by omega), Array.getElem?_eq_none (by simp; omega)]
      subst tov
      refine wpAny_bind (wpAny_seqItems (s := { s with heap := h' }) TO' rfl ?_)
      refine wpAny_bind (wpAny_newTuple ?_ (by have := Bw.sz63 hl; simpa [hvl] using this))
      have hsz : h'.objs.size = s.heap.objs.size := K'.1
      show wpAny _ _ (Builtin.SmallTypes.ownedTupleHandOut (.ref z) (.ref h'.objs.size) >>= _) _ _ _
      refine wpAny_bind ?_
      unfold Builtin.SmallTypes.ownedTupleHandOut
      have up6 : ∀ c o, h'.get? c = some o → (h'.push { cls := .type "tuple", data := .seq vs.toArray }).get? c = some o := fun c o e => Heap.get?_push_of_some _ e
      have hz6 : ZipO (h'.push { cls := .type "tuple", data := .seq vs.toArray }) z TI TO .ellipsis f1 := up6 _ _ hz'
      refine wpAny_bind (wpAny_setField_rec (s := { s with heap := _ }) hz6 (by simp) fun h7 hz7 sb7 => ?_)
      replace hz7 : ZipO h7 z TI TO (rawInt h'.objs.size) f1 := hz7
      refine wpAny_setField_rec (s := { s with heap := h7 }) hz7 (by simp) fun h8 hz8 sb8 => ?_
      replace hz8 : ZipO h8 z TI TO (rawInt h'.objs.size) false := hz8
      have up : ∀ c o, c ≠ z → h'.get? c = some o → h8.get? c = some o := fun c o c1 e => sb8.extBut _ _ c1 (sb7.extBut _ _ c1 (up6 c o e))
      have hzl : z < h'.objs.size := Heap.lt_size hz'
      have T8 : TupO h8 h'.objs.size vs.toArray := sb8.extBut _ _ (Nat.ne_of_gt hzl) (sb7.extBut _ _ (Nat.ne_of_gt hzl) (Heap.get?_push_size _ rfl))
      have s8 : h8.objs.size = h'.objs.size + 1 := by rw [sb8.1, sb7.1, Heap.size_push]
      have i8 : ItsT h8 rs (k + 1) 0 := fun m r e =>
        ⟨(i'.done m r e).1.at fun o q => up _ o (D.itz r (List.mem_of_getElem? e)).1 q, (i'.done m r e).2.at fun o q => up _ o (D.lz r (List.mem_of_getElem? e)).1 q⟩
      rw [hsz] at hz8 T8 s8
      refine wpAny_pure ⟨_, rfl, ?_⟩
      show Q (.ref h'.objs.size) _
      rw [hsz]
      exact hQ h8 _ _ _ (.inr ⟨_, rfl⟩) hz8 (up _ _ D.TIz (TIk K' hTI)) (up _ _ D.TOz TO') st' i8 T8 s8 fun c o c1 c2 c3 e => up c o c1 (K'.2 c o c1 c2 c3 e)
  | false =>
    simp only [Bool.false_eq_true, if_false]
    refine wpAny_bind ?_
    rw [← Array.forIn_toList]
    refine forIn_by (fun j b s' => b = (none, (vs.take j).toArray) ∧ ∃ h', s' = { s with heap := h' } ∧ ZipO h' z TI TO f0 f1 ∧ ItsT h' rs k j ∧ Kept z TO rs s.heap h' ∧ TupO h' TO to) _ 0 _ _
      ⟨rfl, h1, rfl, hz1, i1, K1, TO1⟩ ?_ ?_
    · rintro j x b s' hj ⟨rfl, h', rfl, hz', i', K', TO'⟩
      rw [Nat.zero_add] at i' ⊢
      obtain ⟨r, hr, rfl⟩ := map_get (show (rs.map fun r => Value.ref r.it)[j]? = some x from hj)
      have hm := List.mem_of_getElem? hr
      obtain ⟨v, hv1, hv2⟩ := hv.2 j r hr
      obtain ⟨it1, il⟩ := i' j r hr
      rw [if_neg (Nat.lt_irrefl _)] at it1
      refine wpAny_bind (wpAny_holding ?_)
      show wpAny _ _ (Builtin.SmallTypes.nextOf (.ref r.it) >>= _) _ _ _
      refine wpAny_bind (RZ.nextOf_tuple_item (s := { s with heap := h' }) it1 il hv2 fun h3 it3 sb3 => wpAny_pure ?_)
      refine wpAny_pure ⟨_, rfl, ?_, h3, rfl, sb3.extBut _ _ (D.itz r hm).1.symm hz', i'.next D hr it3 sb3, K'.trans (.it hm sb3), sb3.extBut _ _ (D.itz r hm).2.2.symm TO'⟩
      rw [List.take_succ, hv1]
      simp
    · rintro b s' ⟨rfl, h', rfl, hz', i', K', TO'⟩
      have hlen : 0 + (List.map (fun r => Value.ref r.it) rs).toArray.toList.length = rs.length := by simp
      rw [hlen] at i' ⊢
      rw [← hvl, List.take_length]
      show wpAny _ _ (newTuple vs >>= _) _ _ _
      refine wpAny_bind (wpAny_newTuple ?_ (by have := Bw.sz63 hl; omega))
      have hsz : h'.objs.size = s.heap.objs.size := K'.1
      have up : ∀ c o, h'.get? c = some o → (h'.push { cls := .type "tuple", data := .seq vs.toArray }).get? c = some o := fun c o e => Heap.get?_push_of_some _ e
      refine wpAny_pure ⟨_, rfl, ?_⟩
      show Q (.ref h'.objs.size) _
      have T8 : TupO (h'.push { cls := .type "tuple", data := .seq vs.toArray }) h'.objs.size vs.toArray := Heap.get?_push_size _ rfl
      have s8 : (h'.push { cls := .type "tuple", data := .seq vs.toArray }).objs.size = h'.objs.size + 1 := Heap.size_push ..
      rw [hsz] at T8 s8 ⊢
      exact hQ _ _ _ _ hf (up _ _ hz') (up _ _ (TIk K' hTI)) (up _ _ TO') hto (fun m r e => ⟨(i'.done m r e).1.at fun o q => up _ o q, (i'.done m r e).2.at fun o q => up _ o q⟩) T8 s8
        fun c o c1 c2 c3 e => up c o (K'.2 c o c1 c2 c3 e)

theorem next_end {z TI TO : Addr} {r : Rw} {t : List Rw} {k : Nat} {f0 : Value} {f : Bool} {to : Array Value} {Q : PySem.Fin → Shared → Prop} (hh : A.handled = none) (D : Apart z TI TO (r :: t)) (hf : Fld0 f0)
    (hz : ZipO s.heap z TI TO f0 f) (hTI : TupO s.heap TI ((r :: t).map fun r => Value.ref r.it).toArray) (hi : ItsT s.heap (r :: t) k 0) (hx : r.xs[k]? = none)
    (hE : ∀ h' e, (∀ c o, c ≠ z → c ≠ TO → (∀ q ∈ r :: t, c ≠ q.it) → s.heap.get? c = some o → h'.get? c = some o) → (∃ o, h'.get? e = some o ∧ o.cls = .type "StopIteration") → E (.ref e) { s with heap := h' }) :
    wpAny (model prog w) A (Builtin.«zip.__next__» ⟨[.ref z], []⟩) Q E s := by
  have hm : r ∈ r :: t := List.mem_cons_self
  show wpAny _ _ (field (.ref z) 2 >>= _) _ _ _
  refine wpAny_bind (wpAny_field hz rfl (x := .bool false) rfl ?_)
  show wpAny _ _ (field (.ref z) 3 >>= _) _ _ _
  refine wpAny_bind (wpAny_field hz rfl (x := .ref TI) rfl ?_)
  refine wpAny_bind (wpAny_seqItems hTI rfl ?_)
  have ne : ((r :: t).map fun r => Value.ref r.it).toArray.isEmpty = false := rfl
  dsimp only
  rw [ne]
  show wpAny _ _ (Builtin.SmallTypes.ownedTupleIsFree (.ref z) >>= _) _ _ _
  refine wpAny_bind (owned hf hz fun h1 b f1 hz1 sb1 => ?_)
  have i1 : ItsT h1 (r :: t) k 0 := hi.but sb1 (fun r hr => (D.itz r hr).1) fun r hr => (D.lz r hr).1
  cases b with
  | true =>
    simp only [if_true]
    refine wpAny_bind (wpAny_rule ?_)
    refine wpAny_bind (wpAny_field (s := { s with heap := h1 }) hz1 rfl (x := .ref TO) rfl ?_)
    refine wpAny_bind (wpAny_setField_rec (s := { s with heap := h1 }) hz1 (by simp) fun h2 hz2 sb2 => ?_)
    replace hz2 : ZipO h2 z TI TO .ellipsis f1 := hz2
    have i2 : ItsT h2 (r :: t) k 0 := i1.but sb2 (fun r hr => (D.itz r hr).1) fun r hr => (D.lz r hr).1
    obtain ⟨it1, il⟩ := i2 0 r rfl
    refine wpAny_bind ?_
    rw [List.map_cons, List.zipIdx_cons, List.forIn_cons]
    refine wpAny_bind (wpAny_bind (wpAny_onRaise ?_))
    show wpAny _ _ (Builtin.SmallTypes.nextOf (.ref r.it) >>= _) _ _ _
    refine wpAny_bind (RZ.nextOf_tuple_end (s := { s with heap := h2 }) hh it1 il hx fun h3 e sb3 he => ?_)
    obtain ⟨oe, hoe, hce⟩ := he
    have hz3 : ZipO h3 z TI TO .ellipsis f1 := sb3 _ _ (D.itz r hm).1.symm hz2
    have hez : e ≠ z := fun x => by subst x; rw [hz3] at hoe; cases hoe; simp at hce
    exact wpAny_setField_rec (s := { s with heap := h3 }) hz3 (by simp) fun h4 _ sb4 => hE h4 e (fun c o c1 c2 c3 x => sb4.extBut _ _ c1 (sb3 _ _ (c3 r hm) (sb2.extBut _ _ c1 (sb1.extBut _ _ c1 x)))) ⟨oe, sb4.extBut _ _ hez hoe, hce⟩
  | false =>
    simp only [Bool.false_eq_true, if_false]
    obtain ⟨it1, il⟩ := i1 0 r rfl
    refine wpAny_bind ?_
    rw [← Array.forIn_toList]
    rw [List.map_cons, List.forIn_cons]
    refine wpAny_bind (wpAny_bind (wpAny_holding ?_))
    show wpAny _ _ (Builtin.SmallTypes.nextOf (.ref r.it) >>= _) _ _ _
    exact wpAny_bind (RZ.nextOf_tuple_end (s := { s with heap := h1 }) hh it1 il hx fun h3 e sb3 he => hE h3 e (fun c o c1 c2 c3 x => sb3 _ _ (c3 r hm) (sb1.extBut _ _ c1 x)) he)

theorem pyNext_item {z TI TO : Addr} {rs : List Rw} {k : Nat} {f0 : Value} {f : Bool} {to : Array Value} {vs : List Value} {Q : Option Value → Shared → Prop} (D : Apart z TI TO rs) (hn : 0 < rs.length) (hl : rs.length ≤ 1000) (hf : Fld0 f0)
    (hz : ZipO s.heap z TI TO f0 f) (hTI : TupO s.heap TI (rs.map fun r => Value.ref r.it).toArray) (hTO : TupO s.heap TO to) (hto : to.size = rs.length) (hi : ItsT s.heap rs k 0) (hv : Vs rs k vs)
    (hQ : ∀ h' f0' f' to', Fld0 f0' → ZipO h' z TI TO f0' f' → TupO h' TI (rs.map fun r => Value.ref r.it).toArray → TupO h' TO to' → to'.size = rs.length → ItsT h' rs (k + 1) 0 → TupO h' s.heap.objs.size vs.toArray →
      h'.objs.size = s.heap.objs.size + 1 → (∀ c o, c ≠ z → c ≠ TO → (∀ r ∈ rs, c ≠ r.it) → s.heap.get? c = some o → h'.get? c = some o) → Q (some (.ref s.heap.objs.size)) { s with heap := h' }) :
    wpAny (model prog w) A (pyNext (.ref z)) Q E s := by
  have hT : s.TypeIs (.ref z) "zip" := ⟨_, hz, rfl⟩
  unfold pyNext
  exact wpAny_bind (wpAny_attempt (wpAny_callSpecial?_slot (name := Str.ofString "__next__") hT F.slot_zip_next
    (wpAny_call_entry F.slot_zip_next hT F.entry_zip_next
      (next_item D hn hl hf hz hTI hTO hto hi hv fun h' a b c d1 d2 d3 d4 d5 d6 d7 d8 d9 => wpAny_pure (hQ h' a b c d1 d2 d3 d4 d5 d6 d7 d8 d9)) (F.args_zip_next_1 _))))
theorem pyNext_end {z TI TO : Addr} {r : Rw} {t : List Rw} {k : Nat} {f0 : Value} {f : Bool} {Q : Option Value → Shared → Prop} (hh : A.handled = none) (D : Apart z TI TO (r :: t)) (hf : Fld0 f0)
    (hz : ZipO s.heap z TI TO f0 f) (hTI : TupO s.heap TI ((r :: t).map fun r => Value.ref r.it).toArray) (hi : ItsT s.heap (r :: t) k 0) (hx : r.xs[k]? = none)
    (hQ : ∀ h', (∀ c o, c ≠ z → c ≠ TO → (∀ q ∈ r :: t, c ≠ q.it) → s.heap.get? c = some o → h'.get? c = some o) → Q none { s with heap := h' }) :
    wpAny (model prog w) A (pyNext (.ref z)) Q E s := by
  have hT : s.TypeIs (.ref z) "zip" := ⟨_, hz, rfl⟩
  unfold pyNext
  refine wpAny_bind (wpAny_attempt (wpAny_callSpecial?_slot (name := Str.ofString "__next__") hT F.slot_zip_next
    (wpAny_call_entry F.slot_zip_next hT F.entry_zip_next (next_end (to := #[]) hh D hf hz hTI hi hx fun h' e hk he => ?_) (F.args_zip_next_1 _))))
  obtain ⟨o, ho, hc⟩ := he
  refine wpAny_bind (wpAny_isInstance (T := "StopIteration") (b := true) ⟨o, ho, hc⟩ isSubtype_stop ?_)
  exact wpAny_pure (hQ _ hk)
theorem meets_new (ls : List (Addr × Array Value)) (hl : ls.length ≤ 1000) :
    Meets (Builtin.«zip.__new__» ⟨.type "zip" :: ls.map fun l => .ref l.1, []⟩) (fun _ R s => (∀ l ∈ ls, s.heap.IsTuple l.1 l.2) ∧
      ∀ h', ZipO h' (s.heap.objs.size + ls.length + 2) (s.heap.objs.size + ls.length) (s.heap.objs.size + ls.length + 1) .none false → TupO h' (s.heap.objs.size + ls.length) ((rowsAt s.heap.objs.size ls).map fun r => Value.ref r.it).toArray →
        TupO h' (s.heap.objs.size + ls.length + 1) (List.replicate ls.length Value.none).toArray → ItsT h' (rowsAt s.heap.objs.size ls) 0 0 → (∀ c o, s.heap.get? c = some o → h'.get? c = some o) →
        R (.ok (.ret (.ref (s.heap.objs.size + ls.length + 2)))) { s with heap := h' }) :=
  .of_wp fun prog w A R s h => by
    obtain ⟨hL, h⟩ := h
    have hsub := sub_zip
    obtain ⟨hp, g, d, tk, os⟩ := s
    unfold Builtin.«zip.__new__» Builtin.SmallTypes.newClass
    repeat (any_goals (first | assumption | wp_step))
    show wpAny _ _ (forIn (ls.map fun l => Value.ref l.1) (#[] : Array Value) fun x its => holding its.toList (pyIter x) >>= fun v => pure (ForInStep.yield (its.push v))) _ _ _
    dsimp only at hL h
    refine forIn_by (s := ⟨hp, g, d, tk, os⟩) (fun j b s' => j ≤ ls.length ∧ b = ((rowsAt hp.objs.size (ls.take j)).map fun r => Value.ref r.it).toArray ∧ ∃ h', s' = ⟨h', g, d, tk, os⟩ ∧ h'.objs.size = hp.objs.size + j ∧ ItsT h' (rowsAt hp.objs.size (ls.take j)) 0 0 ∧
      (∀ c o, hp.get? c = some o → h'.get? c = some o)) _ 0 _ ⟨Nat.zero_le _, rfl, hp, rfl, rfl, fun m r e => (by simp [rowsAt] at e), fun _ _ e => e⟩ ?_ ?_
    · rintro j x b s' hj ⟨hjl, rfl, h', rfl, hsz, hi, hk⟩
      rw [Nat.zero_add] at hi hsz hjl ⊢
      rw [List.getElem?_map] at hj
      cases e : ls[j]? with
      | none =>
        rw [e] at hj
        cases hj
      | some l =>
        rw [e] at hj
        have hx : Value.ref l.1 = x := Option.some.inj hj
        subst hx
        have hlt := (List.getElem?_eq_some_iff.mp e).1
        have hll : h'.IsTuple l.1 l.2 := (hL l (List.mem_of_getElem? e)).at fun o q => hk _ o q
        refine wpAny_bind (wpAny_holding (wpAny_pyIter_tuple (s := ⟨h', g, d, tk, os⟩) hll (wpAny_pure ⟨_, rfl, hlt, ?_, _, rfl, ?_, ?_, fun c o q => Heap.get?_push_of_some _ (hk c o q)⟩)))
        · rw [List.take_succ, e, rowsAt_app, List.map_append]
          show Array.push _ (Value.ref h'.objs.size) = _
          rw [hsz, List.length_take, Nat.min_eq_left (Nat.le_of_lt hlt)]
          simp [rowsAt]
        · rw [Heap.size_push, hsz]
          omega
        · intro m r er
          rw [List.take_succ, e, rowsAt_app, List.length_take, Nat.min_eq_left (Nat.le_of_lt hlt)] at er
          have up : ∀ c o, h'.get? c = some o → (h'.push { cls := .type "tuple_iterator", data := .fields #[.ref l.1, .int 0 0] }).get? c = some o := fun c o q => Heap.get?_push_of_some _ q
          rw [List.getElem?_append] at er
          split at er
          · exact ⟨(hi m r er).1.at fun o q => up _ o q, (hi m r er).2.at fun o q => up _ o q⟩
          · have em : r = ⟨hp.objs.size + j, l.1, l.2⟩ := by
              simp only [Option.toList, rowsAt] at er
              have := List.mem_of_getElem? er
              simpa using this
            subst em
            refine ⟨?_, hll.at fun o q => up _ o q⟩
            rw [if_neg (Nat.not_lt_zero _)]
            show Heap.IsTupleIter _ (hp.objs.size + j) _ _
            rw [← hsz]
            exact ⟨_, Heap.get?_push_size _ rfl, rfl, rfl⟩
    · rintro b s' ⟨hjl, rfl, h', rfl, hsz, hi, hk⟩
      have hlen : 0 + (ls.map fun l => Value.ref l.1).length = ls.length := by simp
      rw [hlen] at hsz hi ⊢
      rw [List.take_length] at hi ⊢
      refine wpAny_pure ?_
      have rl : ((rowsAt hp.objs.size ls).map fun r => Value.ref r.it).length = ls.length := by rw [List.length_map, rowsAt_len]
      refine wpAny_bind (wpAny_newTuple ?_ (by have := Bw.sz63 hl; show ((rowsAt hp.objs.size ls).map fun r => Value.ref r.it).length ≤ _; omega))
      refine wpAny_bind (wpAny_newTuple ?_ (by have := Bw.sz63 hl; rw [List.length_map]; show ((rowsAt hp.objs.size ls).map fun r => Value.ref r.it).length ≤ _; omega))
      refine wpAny_bind ?_
      unfold Builtin.SmallTypes.newRecord Builtin.SmallTypes.ownedTupleFields
      refine wpAny_newObj_type ?_ (by size_fits)
      refine wpAny_pure ⟨_, rfl, ?_⟩
      have l1 : (rowsAt hp.objs.size ls).length = ls.length := rowsAt_len _ _
      generalize rowsAt hp.objs.size ls = rs at h hi l1 ⊢
      have e1 : (List.map (fun x => Value.none) (List.map (fun r => Value.ref r.it) rs).toArray.toList).toArray = (List.replicate ls.length Value.none).toArray := by
        rw [← l1]
        congr 1
        show List.map (fun x => Value.none) (List.map (fun r => Value.ref r.it) rs) = _
        rw [List.map_map]
        exact List.map_const
      rw [e1]
      have t1 : TupO (h'.push { cls := .type "tuple", data := .seq (List.map (fun r => Value.ref r.it) rs).toArray }) h'.objs.size (List.map (fun r => Value.ref r.it) rs).toArray := Heap.get?_push_size _ rfl
      have z1 : (h'.push { cls := .type "tuple", data := .seq (List.map (fun r => Value.ref r.it) rs).toArray }).objs.size = h'.objs.size + 1 := Heap.size_push ..
      have k1 : ∀ c o, h'.get? c = some o → (h'.push { cls := .type "tuple", data := .seq (List.map (fun r => Value.ref r.it) rs).toArray }).get? c = some o := fun c o q => Heap.get?_push_of_some _ q
      show R (.ok (.ret (.ref _))) ⟨Heap.push (Heap.push (Heap.push h' { cls := .type "tuple", data := .seq (List.map (fun r => Value.ref r.it) rs).toArray }) { cls := .type "tuple", data := .seq (List.replicate ls.length Value.none).toArray })
        { cls := .type "zip", data := .fields #[.none, .bool false, .bool false, .ref h'.objs.size, .ref (h'.push { cls := .type "tuple", data := .seq (List.map (fun r => Value.ref r.it) rs).toArray }).objs.size] }, g, d, tk, os⟩
      generalize h'.push { cls := .type "tuple", data := .seq (List.map (fun r => Value.ref r.it) rs).toArray } = h1 at t1 z1 k1 ⊢
      have t2 : TupO (h1.push { cls := .type "tuple", data := .seq (List.replicate ls.length Value.none).toArray }) h1.objs.size (List.replicate ls.length Value.none).toArray := Heap.get?_push_size _ rfl
      have z2 : (h1.push { cls := .type "tuple", data := .seq (List.replicate ls.length Value.none).toArray }).objs.size = h1.objs.size + 1 := Heap.size_push ..
      have k2 : ∀ c o, h1.get? c = some o → (h1.push { cls := .type "tuple", data := .seq (List.replicate ls.length Value.none).toArray }).get? c = some o := fun c o q => Heap.get?_push_of_some _ q
      show R (.ok (.ret (.ref (h1.push { cls := .type "tuple", data := .seq (List.replicate ls.length Value.none).toArray }).objs.size))) _
      generalize h1.push { cls := .type "tuple", data := .seq (List.replicate ls.length Value.none).toArray } = h2 at t2 z2 k2 ⊢
      rw [z1, hsz] at t2 z2 ⊢
      rw [hsz] at t1
      rw [z2]
      have t3 : ZipO (h2.push { cls := .type "zip", data := .fields #[.none, .bool false, .bool false, .ref (hp.objs.size + ls.length), .ref (hp.objs.size + ls.length + 1)] }) h2.objs.size (hp.objs.size + ls.length) (hp.objs.size + ls.length + 1) .none false := Heap.get?_push_size _ rfl
      have k3 : ∀ c o, h2.get? c = some o → (h2.push { cls := .type "zip", data := .fields #[.none, .bool false, .bool false, .ref (hp.objs.size + ls.length), .ref (hp.objs.size + ls.length + 1)] }).get? c = some o := fun c o q => Heap.get?_push_of_some _ q
      rw [z2] at t3
      exact h _ t3 (k3 _ _ (k2 _ _ t1)) (k3 _ _ t2) (fun m r e => ⟨(hi m r e).1.at fun o q => k3 _ o (k2 _ o (k1 _ o q)), (hi m r e).2.at fun o q => k3 _ o (k2 _ o (k1 _ o q))⟩) fun c o q => k3 _ o (k2 _ o (k1 _ o (hk c o q)))

/-- call -/
theorem call_zip (ls : List (Addr × Array Value)) (h0 : 0 < ls.length) (h6 : ls.length ≤ 6) {Q : Value → Shared → Prop} (hL : ∀ l ∈ ls, s.heap.IsTuple l.1 l.2)
    (h : ∀ h', ZipO h' (s.heap.objs.size + ls.length + 2) (s.heap.objs.size + ls.length) (s.heap.objs.size + ls.length + 1) .none false → TupO h' (s.heap.objs.size + ls.length) ((rowsAt s.heap.objs.size ls).map fun r => Value.ref r.it).toArray →
        TupO h' (s.heap.objs.size + ls.length + 1) (List.replicate ls.length Value.none).toArray → ItsT h' (rowsAt s.heap.objs.size ls) 0 0 → (∀ c o, s.heap.get? c = some o → h'.get? c = some o) →
        Q (.ref (s.heap.objs.size + ls.length + 2)) { s with heap := h' }) :
    wpAny (model prog w) A (call (.type "zip") (ls.map fun l => .ref l.1)) Q E s := by
  have l1 : (ls.map fun l => Value.ref l.1).length = ls.length := List.length_map _
  refine callType_new F.called_zip (by decide) (typeCall_zip _) (newCall_zip _ (by omega) (by omega)) (args_init _ (by omega) (by omega)) F.entry_zip_new (meets_new ls (by omega)) ⟨hL, fun h' a b c d e => ?_⟩
  exact ⟨⟨_, a, rfl⟩, h h' a b c d e⟩
end

theorem nolen_zip : typeLookup (.type "zip") "__len__" = pure none := by rw [typeLookup_type, builtinLookup_eq_fast]; kernel_rfl
theorem nohint_zip : typeLookup (.type "zip") "__length_hint__" = pure none := by rw [typeLookup_type, builtinLookup_eq_fast]; kernel_rfl
/-- a zip of tuples between two turns -/
def TnT (p : Nat) (as : List Addr) (i : Nat) (h : Heap) : Prop := ∃ f0 f to, Fld0 f0 ∧ ZipO h (p + as.length + 2) (p + as.length) (p + as.length + 1) f0 f ∧ TupO h (p + as.length) ((List.range' p as.length).map Value.ref).toArray ∧
  TupO h (p + as.length + 1) to ∧ to.size = as.length ∧ ∀ (m : Nat) a, as[m]? = some a → h.IsTupleIter (p + m) a i
theorem TnT.keep {p : Nat} {as : List Addr} {i : Nat} {h h' : Heap} (st : TnT p as i h) (k : ∀ b ∈ fpN p as.length, ∀ o, h.get? b = some o → h'.get? b = some o) : TnT p as i h' := by
  obtain ⟨f0, f, to, hf, hz, hTI, hTO, hto, hi⟩ := st
  refine ⟨f0, f, to, hf, k _ (fp_mem.mpr ⟨by omega, by omega⟩) _ hz, k _ (fp_mem.mpr ⟨by omega, by omega⟩) _ hTI, k _ (fp_mem.mpr ⟨by omega, by omega⟩) _ hTO, hto, fun m a e => ?_⟩
  have hm := (List.getElem?_eq_some_iff.mp e).1
  exact (hi m a e).at fun o q => k _ (fp_mem.mpr ⟨by omega, by omega⟩) o q
/-- the i-th of each row -/
def colV (rows : Nat → List V) (m i : Nat) : List V := (List.range m).map fun j => ((rows j)[i]?).getD .non
theorem colV_at {rows : Nat → List V} {m i j : Nat} {v : V} (hj : j < m) (e : (rows j)[i]? = some v) : (colV rows m i)[j]? = some v := by
  unfold colV
  rw [List.getElem?_map, List.getElem?_range hj]
  show some (((rows j)[i]?).getD .non) = _
  rw [e]
  rfl
section
variable {X : Cx} {pins : List (Addr × Obj)} {σ : L2.St} {A : Around} {E : Value → Shared → Prop}
theorem fp_lt {p : Nat} {as : List Addr} {i : Nat} {h : Heap} (st : TnT p as i h) : ∀ c ∈ fpN p as.length, c < h.objs.size := fun c hc => by
  obtain ⟨f0, f, to, hf, hz, _⟩ := st
  have hzl : p + as.length + 2 < h.objs.size := Heap.lt_size hz
  obtain ⟨l, u⟩ := fp_mem.mp hc
  exact Nat.lt_of_lt_of_le u (by omega)
/-- one turn -/
theorem turn_item {H : Hp} {s : Shared} {p : Nat} {as : List Addr} {rows : Nat → List V} {n i : Nat} {Q : Option Value → Shared → Prop} (ha : ∀ a ∈ as, a < p) (h0 : 0 < as.length) (h6 : as.length ≤ 6) (I : Inv X pins σ H s) (hf : ∀ b ∈ fpN p as.length, FpOk X pins H b)
    (st : TnT p as i s.heap) (hg : ∀ (m : Nat) a, as[m]? = some a → SqT X.K H a (rows m)) (hr : ∀ m, m < as.length → (rows m).length = n) (hi : i < n)
    (hQ : ∀ h', Inv X pins σ (upd H s.heap.objs.size (.tup (colV rows as.length i))) { s with heap := h' } → TnT p as (i + 1) h' → (∀ c o, c ∉ fpN p as.length → s.heap.get? c = some o → h'.get? c = some o) → Q (some (.ref s.heap.objs.size)) { s with heap := h' }) :
    wpAny (model X.prog X.w) A (pyNext (.ref (p + as.length + 2))) Q E s := by
  obtain ⟨f0, f, to, hf0, hz, hTI, hTO, hto, hit⟩ := st
  have hg' : ∀ m : Nat, ∃ q : V × Value × Array Value, ∀ a, as[m]? = some a → (rows m)[i]? = some q.1 ∧ s.heap.IsTuple a q.2.2 ∧ q.2.2[i]? = some q.2.1 ∧ RelV q.1 q.2.1 := fun m => by
    by_cases hm : m < as.length
    · have hx := hg m _ (List.getElem?_eq_getElem hm)
      have hl : i < (rows m).length := by rw [hr m hm]; exact hi
      obtain ⟨its, rv, pl, _⟩ := I.tuple hx
      obtain ⟨u, hu, ru⟩ := rv.get (List.getElem?_eq_getElem hl)
      exact ⟨((rows m)[i], u, its.toArray), fun a ea => by
        rw [List.getElem?_eq_getElem hm] at ea
        obtain rfl := Option.some.inj ea
        exact ⟨List.getElem?_eq_getElem hl, pl, by simpa using hu, ru⟩⟩
    · exact ⟨(.non, .none, #[]), fun a ea => absurd (List.getElem?_eq_some_iff.mp ea).1 hm⟩
  let G := fun m => Classical.choose (hg' m)
  have hG : ∀ (m : Nat) a, as[m]? = some a → (rows m)[i]? = some (G m).1 ∧ s.heap.IsTuple a (G m).2.2 ∧ (G m).2.2[i]? = some (G m).2.1 ∧ RelV (G m).1 (G m).2.1 := fun m => Classical.choose_spec (hg' m)
  generalize G = G at hG
  -- the same address may stand twice in as, so rows are told by place
  have hA : ∀ a, ∃ xs : Array Value, a ∈ as → s.heap.IsTuple a xs := fun a => by
    by_cases c : a ∈ as
    · obtain ⟨m, hm⟩ := List.mem_iff_getElem?.mp c
      exact ⟨_, fun _ => (hG m a hm).2.1⟩
    · exact ⟨#[], fun z => absurd z c⟩
  let G2 := fun a => Classical.choose (hA a)
  have hG2 : ∀ a, a ∈ as → s.heap.IsTuple a (G2 a) := fun a => Classical.choose_spec (hA a)
  generalize G2 = G2 at hG2
  have same : ∀ (m : Nat) a, as[m]? = some a → G2 a = (G m).2.2 := fun m a e => by
    obtain ⟨o, ho, _, k, d⟩ := hG2 a (List.mem_of_getElem? e)
    obtain ⟨o', ho', _, k', d'⟩ := (hG m a e).2.1
    rw [ho] at ho'
    cases ho'
    rw [d] at d'
    injection d'
  have rl := rowsOf_len p as G2
  have D := apart ha G2
  have rit := rowsOf_it as p G2
  have HIts : ItsT s.heap (rowsOf p as G2) i 0 := fun m r e => by
    obtain ⟨a, ea, rfl⟩ := rowsOf_get e
    rw [if_neg (Nat.not_lt_zero _)]
    exact ⟨hit m a ea, hG2 a (List.mem_of_getElem? ea)⟩
  have hV : Vs (rowsOf p as G2) i ((List.range as.length).map fun m => (G m).2.1) := ⟨by rw [List.length_map, List.length_range, rl], fun m r e => by
    obtain ⟨a, ea, rfl⟩ := rowsOf_get e
    have hm := (List.getElem?_eq_some_iff.mp ea).1
    refine ⟨(G m).2.1, by rw [List.getElem?_map, List.getElem?_range hm]; rfl, ?_⟩
    show (G2 a)[i]? = _
    rw [same m a ea]
    exact (hG m a ea).2.2.1⟩
  have hzl : p + as.length + 2 < s.heap.objs.size := Heap.lt_size hz
  rw [← rit] at hTI
  refine pyNext_item D (by omega) (by omega) hf0 hz hTI hTO (by omega) HIts hV fun h' f0' f' to' hf0' z' TI' TO' to2 i' hT hsz hk => ?_
  have cv : colV rows as.length i = (List.range as.length).map fun m => (G m).1 := by
    unfold colV
    refine List.map_congr_left fun m hm => ?_
    rw [(hG m _ (List.getElem?_eq_getElem (List.mem_range.mp hm))).1]
    rfl
  have rvs : ∀ k, k ≤ as.length → Vals ((List.range k).map fun m => (G m).1) ((List.range k).map fun m => (G m).2.1) := fun k => by
    induction k with
    | zero => exact fun _ => .nil
    | succ k ih =>
      intro hk
      rw [List.range_succ, List.map_append, List.map_append]
      exact (ih (by omega)).append (.cons (hG k _ (List.getElem?_eq_getElem (show k < as.length by omega))).2.2.2 .nil)
  have new : ObjOk X.prog X.w (upd H s.heap.objs.size (.tup (colV rows as.length i))) h' s.heap.objs.size (.tup (colV rows as.length i)) := by
    rw [cv]
    exact ⟨by show ((List.range as.length).map fun m => (G m).1).length ≤ sizeLine; rw [List.length_map, List.length_range]; exact Bw.sz63 (by omega), (List.range as.length).map fun m => (G m).2.1, rvs _ (Nat.le_refl _), ⟨_, hT, rfl, _, rfl⟩⟩
  have keep : ∀ c o, c ∉ fpN p as.length → s.heap.get? c = some o → h'.get? c = some o := fun c o hb q =>
    hk c o (fun e => hb (fp_mem.mpr (by have := eqN e; omega))) (fun e => hb (fp_mem.mpr (by have := eqN e; omega))) (fun r hr e => hb (by
        obtain ⟨m, hm⟩ := List.mem_iff_getElem?.mp hr
        obtain ⟨a, ea, rfl⟩ := rowsOf_get hm
        have hm2 := (List.getElem?_eq_some_iff.mp ea).1
        have e' := eqN e
        have e'' : @Eq Nat c (p + m) := e'
        exact fp_mem.mpr (by omega))) q
  have I1 : Inv X pins σ (upd H s.heap.objs.size (.tup (colV rows as.length i))) { s with heap := h' } :=
    I.turnedNew (t' := s.toks) (ch := fpN p as.length) keep hf (Nat.le_refl _) new
  refine hQ h' I1 ⟨f0', f', to', hf0', z', by rw [rit] at TI'; exact TI', TO', by omega, fun m a ea => ?_⟩ keep
  have er : (rowsOf p as G2)[m]? = some ⟨p + m, a, G2 a⟩ := by
    unfold rowsOf
    rw [rowsAt_get, List.getElem?_map, ea]
    rfl
  have := (i' m _ er).1
  rw [if_neg (Nat.not_lt_zero _)] at this
  exact this
theorem turn_end {H : Hp} {s : Shared} {p : Nat} {as : List Addr} {rows : Nat → List V} {n : Nat} {Q : Option Value → Shared → Prop} (hh : A.handled = none) (ha : ∀ a ∈ as, a < p) (h0 : 0 < as.length) (h6 : as.length ≤ 6) (I : Inv X pins σ H s) (hf : ∀ b ∈ fpN p as.length, FpOk X pins H b)
    (st : TnT p as n s.heap) (hg : ∀ (m : Nat) a, as[m]? = some a → SqT X.K H a (rows m)) (hr : ∀ m, m < as.length → (rows m).length = n)
    (hQ : ∀ h', Inv X pins σ H { s with heap := h' } → (∀ c o, c ∉ fpN p as.length → s.heap.get? c = some o → h'.get? c = some o) → Q none { s with heap := h' }) :
    wpAny (model X.prog X.w) A (pyNext (.ref (p + as.length + 2))) Q E s := by
  obtain ⟨f0, f, to, hf0, hz, hTI, hTO, hto, hit⟩ := st
  have hA : ∀ a, ∃ xs : Array Value, a ∈ as → s.heap.IsTuple a xs ∧ xs[n]? = none := fun a => by
    by_cases c : a ∈ as
    · obtain ⟨m, hm⟩ := List.mem_iff_getElem?.mp c
      obtain ⟨its, rv, pl, _⟩ := I.tuple (hg m a hm)
      have h1 := rv.length
      have h2 := hr m (List.getElem?_eq_some_iff.mp hm).1
      exact ⟨its.toArray, fun _ => ⟨pl, by simp; omega⟩⟩
    · exact ⟨#[], fun z => absurd z c⟩
  let G2 := fun a => Classical.choose (hA a)
  have hG2 : ∀ a, a ∈ as → s.heap.IsTuple a (G2 a) ∧ (G2 a)[n]? = none := fun a => Classical.choose_spec (hA a)
  generalize G2 = G2 at hG2
  have D := apart ha G2
  have rit := rowsOf_it as p G2
  have HIts : ItsT s.heap (rowsOf p as G2) n 0 := fun m r e => by
    obtain ⟨a, ea, rfl⟩ := rowsOf_get e
    rw [if_neg (Nat.not_lt_zero _)]
    exact ⟨hit m a ea, (hG2 a (List.mem_of_getElem? ea)).1⟩
  rw [← rit] at hTI
  have ea0 : as[0]? = some as[0] := List.getElem?_eq_getElem h0
  have hr0 : (rowsOf p as G2)[0]? = some ⟨p + 0, as[0], G2 as[0]⟩ := by
    unfold rowsOf
    rw [rowsAt_get, List.getElem?_map, ea0]
    rfl
  have hx := (hG2 as[0] (List.getElem_mem _)).2
  have hk2 : ∀ r ∈ rowsOf p as G2, ∃ m, m < as.length ∧ r.it = p + m := fun r hr => by
    obtain ⟨m, hm⟩ := List.mem_iff_getElem?.mp hr
    obtain ⟨a, ea, rfl⟩ := rowsOf_get hm
    exact ⟨m, (List.getElem?_eq_some_iff.mp ea).1, rfl⟩
  generalize rowsOf p as G2 = rs at D rit HIts hTI hr0 hk2
  cases rs with
  | nil => cases hr0
  | cons r t =>
    have er : r = ⟨p + 0, as[0], G2 as[0]⟩ := Option.some.inj hr0
    have hx' : r.xs[n]? = none := by rw [er]; exact hx
    refine pyNext_end hh D hf0 hz hTI HIts hx' fun h' hk => ?_
    have keep : ∀ c o, c ∉ fpN p as.length → s.heap.get? c = some o → h'.get? c = some o := fun c o hb q =>
      hk c o (fun e => hb (fp_mem.mpr (by have := eqN e; omega))) (fun e => hb (fp_mem.mpr (by have := eqN e; omega))) (fun q hq e => hb (by
          obtain ⟨m, hm, e2⟩ := hk2 q hq
          have e' := eqN e
          have e'' := eqN e2
          exact fp_mem.mpr (by omega))) q
    exact hQ h' (I.turnedL (t' := s.toks) (ch := fpN p as.length) keep hf) keep
/-- what has been gathered -/
structure Gath (H H' : Hp) (as : List Addr) (rows : Nat → List V) (ts : List Addr) : Prop where
  s : Same H H'
  row : ∀ (j : Nat) r, ts[j]? = some r → H r = none ∧ H' r = some (.tup (colV rows as.length j))
theorem loop {H : Hp} {p S : Nat} {as : List Addr} {rows : Nat → List V} {n : Nat} {R : Result → Shared → Prop} {res : Value} (hh : A.handled = none) (ha : ∀ a ∈ as, a < p) (h0 : 0 < as.length) (h6 : as.length ≤ 6)
    (hg : ∀ (m : Nat) a, as[m]? = some a → SqT X.K H a (rows m)) (hr : ∀ m, m < as.length → (rows m).length = n) (hn : n ≤ 1000) (hS : S ∉ fpN p as.length) :
    ∀ (k i : Nat) (s : Shared) (H' : Hp) (ts : List Addr) (c : Nat), n - i = k → i ≤ n → Inv X pins σ H' s → (∀ b ∈ fpN p as.length, FpOk X pins H' b) → FpOk X pins H' S → TnT p as i s.heap →
      s.heap.get? S = some { cls := .type "list", dict := none, data := .seq (ts.map Value.ref).toArray c, slots := #[] } → ts.length = i → Gath H H' as rows ts →
      (∀ s' H'' ts' c', Inv X pins σ H'' s' → s'.heap.get? S = some { cls := .type "list", dict := none, data := .seq (ts'.map Value.ref).toArray c', slots := #[] } → ts'.length = n → Gath H H'' as rows ts' → R (.ok (.ret res)) s') →
      codeAny (model X.prog X.w) A (.builtin "list.extend.loop" ⟨[.ref S, .ref (p + as.length + 2), res], []⟩) R s := by
  intro k
  induction k with
  | zero =>
    intro i s H' ts c hk hi I hf hfS st hSo hl g hR
    obtain rfl : i = n := by omega
    refine codeAny_builtin F.entry_extend_loop ?_
    rw [Around.under_plainId F.plain_extend_loop _]
    show wpAny _ A.in1 (pyNext (.ref (p + as.length + 2)) >>= _) _ _ s
    refine wpAny_bind (turn_end hh ha h0 h6 I hf st (fun m a e => Bw.same_tup g.s (hg m a e)) hr fun h' I' keep => ?_)
    exact wpAny_pure (hR _ H' ts c I' (keep _ _ hS hSo) hl g)
  | succ k ih =>
    intro i s H' ts c hk hi I hf hfS st hSo hl g hR
    have hlt : i < n := by omega
    refine codeAny_builtin F.entry_extend_loop ?_
    rw [Around.under_plainId F.plain_extend_loop _]
    show wpAny _ A.in1 (pyNext (.ref (p + as.length + 2)) >>= _) _ _ s
    refine wpAny_bind (turn_item ha h0 h6 I hf st (fun m a e => Bw.same_tup g.s (hg m a e)) hr hlt fun h' I' st' keep => ?_)
    have hSo' := keep _ _ hS hSo
    have hSl : S < s.heap.objs.size := Heap.lt_size hSo
    have hTn : H' s.heap.objs.size = none := I.hok.fresh (Nat.le_refl _)
    have up : ∀ {b : Addr}, b < s.heap.objs.size → FpOk X pins H' b → FpOk X pins (upd H' s.heap.objs.size (.tup (colV rows as.length i))) b := fun {b} hb ⟨q, r⟩ => ⟨by rw [upd_ne (Nat.ne_of_lt hb)]; exact q, r⟩
    have hfS' := up hSl hfS
    show wpAny _ A.in1 (updateSeq S (·.push (.ref s.heap.objs.size)) >>= _) _ _ _
    refine wpAny_bind ?_
    have ts1 : ((ts.map Value.ref).toArray.push (.ref s.heap.objs.size)) = ((ts ++ [s.heap.objs.size]).map Value.ref).toArray := by simp
    obtain ⟨c2, hS2⟩ : ∃ c2, (h'.update S (Obj.mapSeq (·.push (.ref s.heap.objs.size)))).get? S = some { cls := .type "list", dict := none, data := .seq ((ts.map Value.ref).toArray.push (.ref s.heap.objs.size)) c2, slots := #[] } := ⟨_, Heap.get?_update_self _ hSo' rfl⟩
    rw [ts1] at hS2
    have I2 := I'.turnedL (h' := h'.update S (Obj.mapSeq (·.push (.ref s.heap.objs.size)))) (t' := s.toks) (ch := [S]) (fun b o hb e => (Heap.get?_update_other _ _ (fun z : S = b => hb (by rw [z]; exact List.mem_cons_self))).trans e) (fun b hb => by
      rw [List.mem_singleton.mp hb]
      exact hfS')
    refine wpAny_updateSeq (s := { s with heap := h' }) hSo' rfl (wpAny_pure ⟨plainId_quiet F.plain_extend_loop _, ih (i + 1) _ (upd H' s.heap.objs.size (.tup (colV rows as.length i))) (ts ++ [s.heap.objs.size]) c2 (by omega) hlt I2 (fun b hb => up (fp_lt st b hb) (hf b hb)) hfS' (st'.keep fun b hb o e => ?_) hS2 (by rw [List.length_append, hl]; rfl) ?_ hR⟩)
      (by
        have : (ts.map Value.ref).toArray.size = i := by simp [hl]
        rw [this]
        have := Bw.sz63 hn
        omega) (by
        show ((ts.map Value.ref).toArray.push (.ref s.heap.objs.size)).size ≤ sizeLine + 1
        rw [ts1]
        have : ((ts ++ [s.heap.objs.size]).map Value.ref).toArray.size = i + 1 := by simp [hl]
        rw [this]
        have := Bw.sz63 hn
        omega)
    · exact (Heap.get?_update_other _ _ (fun h : S = b => hS (by rw [h]; exact hb))).trans e
    · refine ⟨g.s.trans (Bw.same_new hTn), fun j r e => ?_⟩
      have hj := (List.getElem?_eq_some_iff.mp e).1
      rw [List.length_append, List.length_singleton] at hj
      by_cases cj : j < ts.length
      · rw [List.getElem?_append_left cj] at e
        obtain ⟨g1, g2⟩ := g.row j r e
        exact ⟨g1, Bw.same_new hTn _ _ g2⟩
      · rw [List.getElem?_append_right (by omega), show j - ts.length = 0 by omega] at e
        have hx : s.heap.objs.size = r := by simpa using e
        subst hx
        have hji : j = i := by omega
        rw [hji]
        exact ⟨g.s.free hTn, upd_same⟩
end
section
variable {X : Cx} {pins : List (Addr × Obj)} {σ : L2.St} {A : Around} {E : Value → Shared → Prop}
theorem collect_zip {H : Hp} {s : Shared} {p : Nat} {as : List Addr} {rows : Nat → List V} {n : Nat} {Q : List Value → Shared → Prop} (hh : A.handled = none) (ha : ∀ a ∈ as, a < p) (h0 : 0 < as.length) (h6 : as.length ≤ 6)
    (hg : ∀ (m : Nat) a, as[m]? = some a → SqT X.K H a (rows m)) (hr : ∀ m, m < as.length → (rows m).length = n) (hn : n ≤ 1000) (I : Inv X pins σ H s) (hf : ∀ b ∈ fpN p as.length, FpOk X pins H b) (st : TnT p as 0 s.heap)
    (hQ : ∀ s' H' ts, Inv X pins σ H' s' → ts.length = n → Gath H H' as rows ts → Q (ts.map Value.ref) s') : wpAny (model X.prog X.w) A (collect (.ref (p + as.length + 2))) Q E s := by
  have hSf : s.heap.objs.size ∉ fpN p as.length := fun hm => Nat.lt_irrefl _ (fp_lt st _ hm)
  have hSI : s.heap.objs.size ≠ p + as.length + 2 := fun e => hSf (by rw [e]; exact fp_mem.mpr ⟨by omega, by omega⟩)
  have hfS : FpOk X pins H s.heap.objs.size := I.fpOk (Nat.le_refl _) (I.hok.fresh (Nat.le_refl _))
  unfold collect
  refine wpAny_bind (wpAny_runValue (codeAny_builtin F.entry_proto_collect ?_))
  rw [Around.under_plainId F.plain_proto_collect _]
  show wpAny _ A.in1 (newList [] >>= fun l => again (.builtin "list.__iadd__" ⟨[l, .ref (p + as.length + 2)], []⟩)) _ _ s
  refine wpAny_bind (wpAny_newObj_type ?_)
  refine wpAny_pure ⟨plainId_quiet F.plain_list_iadd _, codeAny_builtin F.entry_list_iadd ?_⟩
  rw [Around.under_plainId F.plain_list_iadd _]
  have I1 : Inv X pins σ H { s with heap := s.heap.push { cls := .type "list", data := .seq ([] : List Value).toArray } } := I.kept (t' := s.toks) fun b u e => Heap.get?_push_of_some _ e
  have st1 : TnT p as 0 (s.heap.push { cls := .type "list", data := .seq ([] : List Value).toArray }) := st.keep fun b _ o e => Heap.get?_push_of_some _ e
  have hS₁ : (s.heap.push { cls := .type "list", data := .seq ([] : List Value).toArray }).get? s.heap.objs.size = some { cls := .type "list", data := .seq ([] : List Value).toArray } := Heap.get?_push_size _ rfl
  generalize hh1 : s.heap.push { cls := .type "list", data := .seq ([] : List Value).toArray } = h1 at I1 st1 hS₁
  show wpAny _ A.in1 (Builtin.List.listExtendWith (.ref s.heap.objs.size) (.ref (p + as.length + 2)) (.ref s.heap.objs.size)) _ _ { s with heap := h1 }
  have hz : ∃ f0 f, ZipO h1 (p + as.length + 2) (p + as.length) (p + as.length + 1) f0 f := by
    obtain ⟨f0, f, _, _, hz, _⟩ := st1
    exact ⟨f0, f, hz⟩
  obtain ⟨f0, f, hz⟩ := hz
  have hT : ({ s with heap := h1 } : Shared).TypeIs (.ref (p + as.length + 2)) "zip" := ⟨_, hz, rfl⟩
  unfold Builtin.List.listExtendWith
  refine wpAny_bind (wpAny_typeOf hT ?_)
  have e1 : Builtin.List.listSameRef (.ref s.heap.objs.size) (.ref (p + as.length + 2)) = false := by simp [Builtin.List.listSameRef, hSI]
  have h2 : (Value.type "zip" == Value.type "list") = false := by decide
  have h3 : (Value.type "zip" == Value.type "tuple") = false := by decide
  simp only [e1, h2, h3, Bool.or_false, Bool.false_eq_true, if_false]
  refine wpAny_bind (pyIter_zip (s := { s with heap := h1 }) hz ?_)
  refine wpAny_bind (wpAny_holding ?_)
  unfold Builtin.List.listLengthHint
  refine wpAny_bind (wpAny_specialOf hT nolen_zip ?_)
  show wpAny _ A.in1 (specialOf (Value.ref (p + as.length + 2)) (Str.ofString "__length_hint__") >>= _) _ _ _
  refine wpAny_bind (wpAny_specialOf hT nohint_zip ?_)
  refine wpAny_pure ?_
  show wpAny _ A.in1 (rule "list.extend.makes-room" >>= fun _ => Builtin.List.listTouch (.ref s.heap.objs.size) >>= fun _ =>
    again (.builtin "list.extend.loop" ⟨[.ref s.heap.objs.size, .ref (p + as.length + 2), .ref s.heap.objs.size], []⟩)) _ _ _
  refine wpAny_bind (wpAny_rule ?_)
  refine wpAny_bind ?_
  show wpAny _ A.in1 (updateSeq s.heap.objs.size (·.push .none) >>= fun _ => updateSeq s.heap.objs.size (·.pop)) _ _ _
  refine wpAny_bind (wpAny_updateSeq (s := { s with heap := h1 }) hS₁ rfl ?_)
  have hS₂ := Heap.get?_update_self (Obj.mapSeq (·.push Value.none)) hS₁ rfl
  refine wpAny_updateSeq (s := { s with heap := h1.update s.heap.objs.size (Obj.mapSeq (·.push Value.none)) }) hS₂ rfl ?_
  have hS₃ := Heap.get?_update_self (Obj.mapSeq (·.pop)) hS₂ rfl
  have oth : ∀ b o, b ≠ s.heap.objs.size → h1.get? b = some o → ((h1.update s.heap.objs.size (Obj.mapSeq (·.push Value.none))).update s.heap.objs.size (Obj.mapSeq (·.pop))).get? b = some o :=
    fun b o hb e => (Heap.get?_update_other _ _ (Ne.symm hb)).trans ((Heap.get?_update_other _ _ (Ne.symm hb)).trans e)
  have I3 := I1.turnedL (h' := (h1.update s.heap.objs.size (Obj.mapSeq (·.push Value.none))).update s.heap.objs.size (Obj.mapSeq (·.pop))) (t' := s.toks) (ch := [s.heap.objs.size]) (fun b o hb e => oth b o (fun z => hb (by rw [z]; exact List.mem_cons_self)) e) (fun b hb => by
    rw [List.mem_singleton.mp hb]
    exact hfS)
  refine wpAny_pure ⟨plainId_quiet F.plain_extend_loop _, loop (A := A) (n := n) hh ha h0 h6 hg hr hn hSf n 0 _ H [] _ rfl (Nat.zero_le _) I3 hf hfS (st1.keep fun b hb o e => oth b o (fun z => hSf (by rw [← z]; exact hb)) e) hS₃ rfl ⟨.refl _, fun j r e => by simp at e⟩ fun s' H' ts c' I' hS' hl g => ?_⟩
  show wpAny _ A (load s.heap.objs.size >>= _) _ _ s'
  refine wpAny_bind (wpAny_load hS' ?_)
  refine wpAny_pure ?_
  have := hQ s' H' ts I' hl g
  simpa using this
theorem code_tuple_zip {H : Hp} {s : Shared} {p : Nat} {as : List Addr} {rows : Nat → List V} {n : Nat} {Q₁ : Value → Shared → Prop} (hh : A.handled = none) (ha : ∀ a ∈ as, a < p) (h0 : 0 < as.length) (h6 : as.length ≤ 6)
    (hg : ∀ (m : Nat) a, as[m]? = some a → SqT X.K H a (rows m)) (hr : ∀ m, m < as.length → (rows m).length = n) (hn : n ≤ 1000) (I : Inv X pins σ H s) (hf : ∀ b ∈ fpN p as.length, FpOk X pins H b) (st : TnT p as 0 s.heap)
    (hQ : ∀ s' H' ts, Inv X pins σ H' s' → ts.length = n → Gath H H' as rows ts → Q₁ (.ref s'.heap.objs.size) { s' with heap := s'.heap.push { cls := .type "tuple", data := .seq (ts.map Value.ref).toArray } }) :
    codeAny (model X.prog X.w) A (.call (.builtin "tuple.__new__") ⟨[.type "tuple", .ref (p + as.length + 2)], []⟩) (wants Q₁ E) s := by
  refine codeAny_of_tree ?_
  show wpAny _ A.in1 (do checkBuiltinCall "tuple.__new__" ⟨[.type "tuple", .ref (p + as.length + 2)], []⟩; again (.builtin "tuple.__new__" ⟨[.type "tuple", .ref (p + as.length + 2)], []⟩)) _ _ s
  refine wpAny_bind (wpAny_of_eq (F.newCall_tuple_1 _) (wpAny_pure ⟨plainId_quiet F.plain_tuple_new _, codeAny_builtin F.entry_tuple_new ?_⟩))
  rw [Around.under_plainId F.plain_tuple_new _]
  have hsub := sub_tuple_self
  have hinit := init_tuple_lookup
  have hmh := madeHere_tuple
  have hz : ∃ f0 f, ZipO s.heap (p + as.length + 2) (p + as.length) (p + as.length + 1) f0 f := by
    obtain ⟨f0, f, _, _, hz, _⟩ := st
    exact ⟨f0, f, hz⟩
  obtain ⟨f0, f, hz⟩ := hz
  have hTI : s.TypeIs (.ref (p + as.length + 2)) "zip" := ⟨_, hz, rfl⟩
  have hh1 : A.in1.handled = none := hh
  wp_walk using wpAny_typeOf hTI, collect_zip (X := X) (pins := pins) (σ := σ) (H := H) (rows := rows) (n := n) (A := A.in1) hh1 ha h0 h6 hg hr hn I hf st
  intro s' H' ts I' hl g
  show wpAny _ _ (Builtin.Tuple.tupleExact (ts.map Value.ref).toArray >>= fun v => ret v) _ _ _
  unfold Builtin.Tuple.tupleExact
  refine wpAny_bind (wpAny_newObj_type ?_ (by
    show (ts.map Value.ref).toArray.size ≤ sizeLine
    have : (ts.map Value.ref).toArray.size = n := by simp [hl]
    rw [this]
    exact Bw.sz63 hn))
  exact wpAny_pure (hQ s' H' ts I' hl g)
theorem call_tuple_zip {H : Hp} {s : Shared} {p : Nat} {as : List Addr} {rows : Nat → List V} {n : Nat} {Q : Value → Shared → Prop} (hh : A.handled = none) (ha : ∀ a ∈ as, a < p) (h0 : 0 < as.length) (h6 : as.length ≤ 6)
    (hg : ∀ (m : Nat) a, as[m]? = some a → SqT X.K H a (rows m)) (hr : ∀ m, m < as.length → (rows m).length = n) (hn : n ≤ 1000) (I : Inv X pins σ H s) (hf : ∀ b ∈ fpN p as.length, FpOk X pins H b) (st : TnT p as 0 s.heap)
    (hQ : ∀ s' H' ts, Inv X pins σ H' s' → ts.length = n → Gath H H' as rows ts → Q (.ref s'.heap.objs.size) { s' with heap := s'.heap.push { cls := .type "tuple", data := .seq (ts.map Value.ref).toArray } }) :
    wpAny (model X.prog X.w) A (call (.type "tuple") [.ref (p + as.length + 2)]) Q E s := by
  refine callType_codes (Q₁ := fun obj s₁ => s₁.TypeIs obj "tuple" ∧ Q obj s₁) F.called_tuple (F.typeCall_tuple_1 _) F.entry_object_init
    (code_tuple_zip (A := A.in1) hh ha h0 h6 hg hr hn I hf st fun s' H' ts I' hl g => ⟨⟨_, Heap.get?_push_size _ rfl, rfl⟩, hQ s' H' ts I' hl g⟩) fun obj s₁ h₁ => ?_
  exact ⟨h₁.1, F.args_object_init_2 obj _, object_init_meets F.called_tuple.init.lookup F.called_tuple.made (by decide) X.prog X.w A.in1 _ s₁ ⟨h₁.1, rfl, h₁.2⟩⟩
/-- tuple(zip( *rows)), the rows tuples of one length -/
def tTupZip (K : PySem.W.Frag) (te : TE) : TE := fun σ H Q => te σ H fun v H1 => ∃ (a : Addr) (as : List Addr) (rows : Nat → List V) (n : Nat), v = .ref a ∧ (SqT K H1 a (as.map V.ref) ∨ SqL K H1 a (as.map V.ref)) ∧ 0 < as.length ∧ as.length ≤ 6 ∧ (∀ (m : Nat) b, as[m]? = some b → SqT K H1 b (rows m)) ∧ (∀ m, m < as.length → (rows m).length = n) ∧ n ≤ 1000 ∧
  ∀ (t : Addr) (ts : List Addr) (H2 : Hp), Same H1 H2 → H1 t = none → H2 t = some (.tup (ts.map V.ref)) → ts.length = n → (∀ (j : Nat) r, ts[j]? = some r → H1 r = none ∧ H2 r = some (.tup (colV rows as.length j))) → Q (.ref t) H2
theorem vals_of_refs : ∀ ts : List Addr, Vals (ts.map V.ref) (ts.map Value.ref)
  | [] => .nil
  | t :: ts => .cons rfl (vals_of_refs ts)
theorem pe_tupZip {e : Expr} {te : TE} {p1 p2 pos pos2 sp : Pos} (hc : X.calm = true) (hg : Gl X "tuple") (hm : X.mg "tuple" = none) (hg2 : Gl X "zip") (hm2 : X.mg "zip" = none) (he : PE X e te)
    (hst : starEach [.Starred e sp] X.env = [(true, eval e X.env)] := by rfl)
    (na : starEach [.Call (.Name "zip" p2) [.Starred e sp] [] pos2] X.env = (false, eval (.Call (.Name "zip" p2) [.Starred e sp] [] pos2) X.env) :: starEach [] X.env := by rfl) :
    PE X (.Call (.Name "tuple" p1) [.Call (.Name "zip" p2) [.Starred e sp] [] pos2] [] pos) (tTupZip X.K te) := by
  refine ⟨fun pins s σ H Q I h => ?_⟩
  refine Call_ (ld_blt I hg hm boot_tuple (PyProof.Rows.callWith_type1 (args_cons ?_ na)))
  refine Call_ (ld_blt I hg2 hm2 PyProof.Rows.boot_zip (callWith_typeS (thn (he.run pins s σ H _ I h) fun v s1 ⟨y, H1, I1, ry, q1⟩ => ?_) hst))
  obtain ⟨a, as, rows, n, rfl, hq, h0, h6, hL, hr, hn, q⟩ := q1
  obtain rfl : v = Value.ref a := ry
  have star : ∀ {Q' : List Value → Shared → Prop}, (∀ us s2, Inv X pins σ H1 s2 → Vals (as.map V.ref) us → Q' us s2) → PySem.W.StarOf (model X.prog X.w) X.A X.xe (.ref a) Q' s1 := fun hQ' => StX.star_any I1 hq fun us s2 I2 rv => hQ' us s2 I2 rv
  refine star fun us s2 I2 rv => ?_
  obtain rfl := vals_refs rv
  have hL' : ∀ b : Addr, ∃ its : Array Value, b ∈ as → s2.heap.IsTuple b its := fun b => by
    by_cases m : b ∈ as
    · obtain ⟨k, hk⟩ := List.mem_iff_getElem?.mp m
      obtain ⟨its, _, pl, _⟩ := I2.tuple (hL k b hk)
      exact ⟨its.toArray, fun _ => pl⟩
    · exact ⟨#[], fun z => absurd z m⟩
  let G := fun b => Classical.choose (hL' b)
  have hG : ∀ b ∈ as, s2.heap.IsTuple b (G b) := fun b m => Classical.choose_spec (hL' b) m
  generalize G = G at hG
  have lt : ∀ b ∈ as, b < s2.heap.objs.size := fun b m => by
    obtain ⟨o, ho, _⟩ := hG b m
    exact Heap.lt_size ho
  have e1 : as.map Value.ref = (as.map fun b => (b, G b)).map fun l => Value.ref l.1 := by
    rw [List.map_map]
    rfl
  rw [e1]
  have l1 : (as.map fun b => (b, G b)).length = as.length := List.length_map _
  refine call_zip _ (by omega) (by omega) (fun l hl => ?_) fun h' hz hTI hTO hi hk => ?_
  · obtain ⟨b, hb, rfl⟩ := List.mem_map.mp hl
    exact hG b hb
  · have I3 : Inv X pins σ H1 { s2 with heap := h' } := I2.kept (t' := s2.toks) hk
    have rit := rowsOf_it as s2.heap.objs.size G
    rw [l1] at hz hTI hTO ⊢
    have hTI' : TupO h' (s2.heap.objs.size + as.length) ((List.range' s2.heap.objs.size as.length).map Value.ref).toArray := by
      rw [← rit]
      exact hTI
    have st : TnT s2.heap.objs.size as 0 h' := ⟨_, _, _, .inl rfl, hz, hTI', hTO, by simp, fun m a ea => by
      have er : (rowsAt s2.heap.objs.size (as.map fun b => (b, G b)))[m]? = some ⟨s2.heap.objs.size + m, a, G a⟩ := by
        rw [rowsAt_get, List.getElem?_map, ea]
        rfl
      have := (hi m _ er).1
      rw [if_neg (Nat.not_lt_zero _)] at this
      exact this⟩
    have hf : ∀ b ∈ fpN s2.heap.objs.size as.length, FpOk X pins H1 b := fun c hc => by
      have hle : s2.heap.objs.size ≤ c := (fp_mem.mp hc).1
      exact I2.fpOk hle (I2.hok.fresh hle)
    refine args_nil ?_
    refine call_tuple_zip (s := { s2 with heap := h' }) (I3.ok.hd hc) lt h0 h6 hL hr hn I3 hf st fun s' H2 ts I4 hl g => ?_
    have hTn : H2 s'.heap.objs.size = none := I4.hok.fresh (Nat.le_refl _)
    refine ⟨.ref s'.heap.objs.size, upd H2 s'.heap.objs.size (.tup (ts.map V.ref)), I4.laid (t' := s'.toks) (fun b u e => Heap.get?_push_of_some _ e) (Nat.le_refl _) (show ObjOk X.prog X.w _ _ _ (.tup (ts.map V.ref)) from ⟨?_, ts.map Value.ref, vals_of_refs ts, ?_⟩), rfl, q _ ts _ (g.s.trans (Bw.same_new hTn)) (g.s.free hTn) upd_same hl fun j r e => ?_⟩
    · rw [List.length_map, hl]
      exact Bw.sz63 hn
    · exact ⟨_, Heap.get?_push_size _ rfl, rfl, _, rfl⟩
    · obtain ⟨g1, g2⟩ := g.row j r e
      exact ⟨g1, Bw.same_new hTn _ _ g2⟩
end
end Bt
set_option exponentiation.threshold 10000
/-! The program: weights looked at, places, driving heights. -/
namespace Kx
open PySem PySem.Spec PyProof.Rows L2 Bw
abbrev sis_place : Stmt := topS 9
abbrev nis_place : List Str := ["value", "many"]
theorem cis_place : FnScope nis_place ["value", "many"] (defScope sis_place) :=
  ⟨rfl, rfl, rfl, by decide +kernel, rfl, by decide +kernel, by decide +kernel⟩

abbrev sis_mirrored : Stmt := topS 32
abbrev nis_mirrored : List Str := ["table"]
theorem cis_mirrored : FnScope nis_mirrored ["table"] (defScope sis_mirrored) :=
  ⟨rfl, rfl, rfl, by decide +kernel, rfl, by decide +kernel, by decide +kernel⟩

abbrev sis_weights : Stmt := topS 33
abbrev nis_weights : List Str := ["value", "row"]
theorem cis_weights : FnScope nis_weights ["value"] (defScope sis_weights) :=
  ⟨rfl, rfl, rfl, by decide +kernel, rfl, by decide +kernel, by decide +kernel⟩

abbrev scheck_weights : Stmt := topS 34
abbrev ncheck_weights : List Str := ["weights"]
theorem ccheck_weights : FnScope ncheck_weights ["weights"] (defScope scheck_weights) :=
  ⟨rfl, rfl, rfl, by decide +kernel, rfl, by decide +kernel, by decide +kernel⟩

abbrev scheck_place : Stmt := topS 36
abbrev ncheck_place : List Str := ["weights", "place"]
theorem ccheck_place : FnScope ncheck_place ["weights", "place"] (defScope scheck_place) :=
  ⟨rfl, rfl, rfl, by decide +kernel, rfl, by decide +kernel, by decide +kernel⟩

abbrev scheck_ends : Stmt := topS 37
abbrev ncheck_ends : List Str := ["weights", "one", "two"]
theorem ccheck_ends : FnScope ncheck_ends ["weights", "one", "two"] (defScope scheck_ends) :=
  ⟨rfl, rfl, rfl, by decide +kernel, rfl, by decide +kernel, by decide +kernel⟩

def isPl (k : Int) : PyData → Bool
  | .int i => decide (0 ≤ i) && decide (i < k)
  | _ => false
theorem lay_all {f : List Rat → PyData} (h : ∀ r, (f r).canLay0 = true) : ∀ l : List (List Rat), PyData.canLayAll0 (l.map f) = true
  | [] => rfl
  | x :: l => by
    rw [List.map_cons, PyData.canLayAll0, h, lay_all h l]
    rfl
theorem fr_lay (q : Rat) : (frD q).canLay0 = true := rfl
theorem row_lay : ∀ r : List Rat, (rowD r).canLay0 = true := fun r => by
  have : ∀ l : List Rat, PyData.canLayAll0 (l.map frD) = true := fun l => by
    induction l with
    | nil => rfl
    | cons x l ih =>
      rw [List.map_cons, PyData.canLayAll0, fr_lay, ih]
      rfl
  exact this r
theorem tab_lay (m : List (List Rat)) : (tabD m).canLay0 = true := lay_all row_lay m
theorem fr_dep (q : Rat) : (frD q).depth ≤ 2 := by
  unfold frD
  simp [PyData.depth, PyData.depthAll]
theorem rows_dep {α : Type} {f : α → PyData} {n : Nat} (h : ∀ r, (f r).depth ≤ n) : ∀ l : List α, PyData.depthAll (l.map f) ≤ n
  | [] => by simp [PyData.depthAll]
  | x :: l => by
    have h1 := h x
    have h2 := rows_dep h l
    rw [List.map_cons, PyData.depthAll]
    omega
theorem tab_shaped (m : List (List Rat)) : SeqAt.shaped (tabD m) = true := by
  have h1 : ∀ r : List Rat, (rowD r).depth ≤ 3 := fun r => by
    have := rows_dep fr_dep r
    unfold rowD
    rw [PyData.depth]
    omega
  have h2 := rows_dep h1 m
  have h3 : (tabD m).depth ≤ 64 := by
    unfold tabD
    rw [PyData.depth]
    omega
  unfold SeqAt.shaped
  rw [tab_lay, decide_eq_true h3]
  rfl
theorem all_dp {α : Type} {K : PySem.W.Frag} {W : Addr → Prop} {H : Hp} {f : α → PyData} (h : ∀ v r, Dq W H v (f r) → Dp K H v (f r)) : ∀ {xs : List V} {l : List α}, DqAll W H xs (l.map f) → DpAll K H xs (l.map f)
  | _, [], .nil => .nil
  | _, x :: l, .cons a b => .cons (h _ _ a) (all_dp h b)
theorem row_dp {K : PySem.W.Frag} {W : Addr → Prop} {H : Hp} {v : V} {r : List Rat} (h : Dq W H v (rowD r)) : Dp K H v (rowD r) := by
  obtain ⟨a, xs, rfl, _, e, x⟩ := h.tupI
  exact .tup (.of e) (all_dp (fun v q h => fr_dp h.fr) x)
theorem tab_dp {K : PySem.W.Frag} {W : Addr → Prop} {H : Hp} {v : V} {m : List (List Rat)} (h : Dq W H v (tabD m)) : Dp K H v (tabD m) := by
  obtain ⟨a, xs, rfl, _, e, x⟩ := h.tupI
  exact .tup (.of e) (all_dp (fun v q h => row_dp h) x)
/-! ### tables compared -/
theorem eqv_map {α : Type} [DecidableEq α] {f : α → PyData} (h : ∀ a b, PyData.eqv (f a) (f b) = decide (a = b)) : ∀ l m : List α, PyData.eqvAll (l.map f) (m.map f) = decide (l = m)
  | [], [] => by simp [PyData.eqvAll]
  | [], _ :: _ => by simp [PyData.eqvAll]
  | _ :: _, [] => by simp [PyData.eqvAll]
  | a :: l, b :: m => by
    rw [List.map_cons, List.map_cons, PyData.eqvAll, h a b, eqv_map h l m, ← Bool.decide_and]
    exact decide_eq_decide.mpr (by rw [List.cons.injEq])
theorem row_eqv (r s : List Rat) : PyData.eqv (rowD r) (rowD s) = decide (r = s) := by
  unfold rowD
  rw [PyData.eqv, eqv_map fr_eqv]
theorem tab_eqv (m k : List (List Rat)) : PyData.eqv (tabD m) (tabD k) = decide (m = k) := by
  unfold tabD
  rw [PyData.eqv, eqv_map row_eqv]
/-- a table turned -/
def mgQ (m : List (List Rat)) (i j : Nat) : Rat := (m.getD i []).getD j 0
def tpQ (m : List (List Rat)) : List (List Rat) := tabF m.length fun i j => mgQ m j i
theorem mg_at {m : List (List Rat)} {i j : Nat} {r : List Rat} {q : Rat} (h : m[i]? = some r) (k : r[j]? = some q) : mgQ m i j = q := by
  unfold mgQ
  rw [List.getD_eq_getElem?_getD, List.getD_eq_getElem?_getD, h]
  show (r[j]?).getD 0 = q
  rw [k]
  rfl
theorem tab_mg {m : List (List Rat)} (T : Tab m) : m = tabF m.length (mgQ m) := by
  apply List.ext_getElem?
  intro i
  unfold tabF
  by_cases c : i < m.length
  · rw [List.getElem?_map, List.getElem?_range c, List.getElem?_eq_getElem c]
    have hl := T.rows _ (List.getElem_mem c)
    show some _ = some _
    congr 1
    apply List.ext_getElem?
    intro j
    by_cases d : j < m.length
    · rw [List.getElem?_map, List.getElem?_range d, List.getElem?_eq_getElem (by omega)]
      show some _ = some _
      congr 1
      exact (mg_at (List.getElem?_eq_getElem c) (List.getElem?_eq_getElem (by omega))).symm
    · rw [List.getElem?_eq_none (by omega), List.getElem?_eq_none (by rw [List.length_map, List.length_range]; omega)]
  · rw [List.getElem?_eq_none (by omega), List.getElem?_eq_none (by rw [List.length_map, List.length_range]; omega)]
theorem tabF_len (n : Nat) (R : Nat → Nat → Rat) : (tabF n R).length = n := by
  unfold tabF
  rw [List.length_map, List.length_range]
theorem mg_tabF {n : Nat} {R : Nat → Nat → Rat} {i j : Nat} (hi : i < n) (hj : j < n) : mgQ (tabF n R) i j = R i j := by
  refine mg_at (r := (List.range n).map fun j => R i j) ?_ ?_
  · unfold tabF
    rw [List.getElem?_map, List.getElem?_range hi]
    rfl
  · rw [List.getElem?_map, List.getElem?_range hj]
    rfl
theorem tabF_congr {n : Nat} {R S : Nat → Nat → Rat} (h : ∀ i j, i < n → j < n → R i j = S i j) : tabF n R = tabF n S := by
  unfold tabF
  exact List.map_congr_left fun i hi => List.map_congr_left fun j hj => h i j (List.mem_range.mp hi) (List.mem_range.mp hj)
theorem bn_tab {n : Nat} {R : Nat → Nat → Rat} (h : Bnds n R) (n1 : 1 ≤ n) (n6 : n ≤ 6) : Tab (tabF n R) := by
  refine ⟨by rw [tabF_len]; exact n1, by rw [tabF_len]; exact n6, fun r hr => ?_, fun r hr q hq => ?_⟩
  · rw [tabF_len]
    unfold tabF at hr
    obtain ⟨i, _, rfl⟩ := List.mem_map.mp hr
    rw [List.length_map, List.length_range]
  · unfold tabF at hr
    obtain ⟨i, _, rfl⟩ := List.mem_map.mp hr
    obtain ⟨j, _, rfl⟩ := List.mem_map.mp hq
    exact (h.wt i j).1
theorem bn_strong {n : Nat} {R : Nat → Nat → Rat} (h : Bnds n R) : Strong (tabF n R) := fun a b ha hb => by
  rw [tabF_len] at ha hb
  refine (h.con a b ha hb).mono fun x y e => ⟨(List.range n).map fun j => R x j, R x y, ?_, ?_, e.2.2⟩
  · unfold tabF
    rw [List.getElem?_map, List.getElem?_range e.1]
    rfl
  · rw [List.getElem?_map, List.getElem?_range e.2.1]
    rfl
section
variable {P : Program} {w : World} {K : PySem.W.Frag} {mg : Str → Option Value} {base : Heap}
def spPlace : Sp := fun vs H Q _ => ∃ (W : Addr → Prop) (v : V) (d : PyData) (k : Int), vs = [v, .int k] ∧ Dq W H v d ∧ Q (.bl (isPl k d)) H
theorem ok_is_place {f : Addr} {fd : FuncData} (F : Fun K "is_place" "is_place" sis_place f fd) (M : Mb mg) (Dis_whole : Df P w K mg base 1 "is_whole" ["value"] (spAsk isNum)) : FnOk P w K mg base CX0 2 f fd ["value", "many"] spPlace := by
  refine F.ok cis_place (fun vs H Q E h => ?_) (fun cdv A outer s H vs Q E hr h => ?_)
  · obtain ⟨_, v, d, k, rfl, _⟩ := h
    rfl
  · obtain ⟨W, v, d, k, rfl, hd, q⟩ := h
    refine ⟨_, (pss_one (ps_ret (pe_and (pe_call Dis_whole.G (hr.mono (by first | decide | omega)) rfl Dis_whole.g Dis_whole.kp Dis_whole.b .nil pass0 (pa_cons (pv 0) pa_nil)) (pe_one (pe_chain op_le op_lt pe_int (pv 0) (pv 1)))))), ?_⟩
    refine ⟨_, rfl, W, v, d, rfl, hd, _, rfl, ?_⟩
    cases hd with
    | int i =>
      refine ifT rfl ?_
      refine ⟨_, rfl, _, _, rfl, rfl, _, rfl, ite2 (fun c => ?_) (fun c => ?_)⟩
      · refine ⟨_, rfl, _, _, rfl, rfl, ?_⟩
        have e : isPl k (.int i) = decide (i < k) := by
          show (decide (0 ≤ i) && decide (i < k)) = _
          rw [c, Bool.true_and]
        rw [e] at q
        exact q
      · have e : isPl k (.int i) = false := by
          show (decide (0 ≤ i) && decide (i < k)) = _
          rw [Bool.eq_false_iff.mpr c, Bool.false_and]
        rw [e] at q
        exact q
    | _ => exact ifF (fun z => nomatch z) q

/-- has a table the same number both ways -/
def spMirr : Sp := fun vs H Q _ => ∃ (W : Addr → Prop) (v : V) (m : List (List Rat)), vs = [v] ∧ Dq W H v (tabD m) ∧ Tab m ∧ ∀ H' b, Same H H' → (b = true ↔ tpQ m = m) → Q (.bl b) H'
theorem ok_mirr {f : Addr} {fd : FuncData} (F : Fun K "is_mirrored" "is_mirrored" sis_mirrored f fd) (M : Mb mg) : FnOk P w K mg base CX0 1 f fd ["table"] spMirr := by
  refine F.ok cis_mirrored (fun vs H Q E h => ?_) (fun cdv A outer s H vs Q E hr h => ?_)
  · obtain ⟨_, v, m, rfl, _⟩ := h
    rfl
  · obtain ⟨W, v, m, rfl, hd, T, q⟩ := h
    have hu := hr.units
    refine ⟨_, (pss_one (ps_ret (pe_cmpR (op_eqD hu) (Bt.pe_tupZip rfl (by rfl) M.tuple (by rfl) M.zip (pv 0)) (pv 0) (nomark _)))), ?_⟩
    obtain ⟨a, xs, rfl, na, ea, el⟩ := hd.tupI
    have xl : xs.length = m.length := by
      have := el.length
      rwa [List.length_map] at this
    obtain ⟨as, rfl, has⟩ := refs_of (acc := xs) (P := fun i b => ∃ ys r, m[i]? = some r ∧ H b = some (.tup ys) ∧ DqAll W H ys (r.map frD)) fun i v e => by
      obtain ⟨d, hd2, dv⟩ := el.at e
      rw [List.getElem?_map] at hd2
      cases z : m[i]? with
      | none =>
        rw [z] at hd2
        cases hd2
      | some r =>
        rw [z] at hd2
        obtain rfl := Option.some.inj hd2
        obtain ⟨b, ys, rfl, nb, eb, er⟩ := dv.tupI
        exact ⟨b, rfl, ys, r, rfl, eb, er⟩
    have al : as.length = m.length := by
      rw [List.length_map] at xl
      exact xl
    have l1 := T.l1
    have l6 := T.l6
    have pick : ∀ i, ∃ ys : List V, i < m.length → ∃ b r, as[i]? = some b ∧ m[i]? = some r ∧ H b = some (.tup ys) ∧ DqAll W H ys (r.map frD) := fun i => by
      by_cases c : i < m.length
      · have e : as[i]? = some (as[i]'(by omega)) := List.getElem?_eq_getElem (by omega)
        obtain ⟨ys, r, h1, h2, h3⟩ := has i _ e
        exact ⟨ys, fun _ => ⟨_, r, e, h1, h2, h3⟩⟩
      · exact ⟨[], fun z => absurd z c⟩
    let rows := fun i => Classical.choose (pick i)
    have hrows : ∀ i, i < m.length → ∃ b r, as[i]? = some b ∧ m[i]? = some r ∧ H b = some (.tup (rows i)) ∧ DqAll W H (rows i) (r.map frD) := fun i => Classical.choose_spec (pick i)
    generalize rows = rows at hrows
    refine ⟨_, rfl, a, as, rows, m.length, rfl, .inl (.of ea), by omega, by omega, fun i b e => ?_, fun i hi => ?_, by omega, fun t ts H2 s2 nt et tl hts => ?_⟩
    · have hi := (List.getElem?_eq_some_iff.mp e).1
      obtain ⟨b', r, h1, _, h3, _⟩ := hrows i (by omega)
      rw [e] at h1
      obtain rfl := Option.some.inj h1
      exact .of h3
    · obtain ⟨b', r, _, h2, _, h4⟩ := hrows i (by omega)
      have := h4.length
      rw [List.length_map, T.rows r (List.mem_of_getElem? h2)] at this
      exact this
    · refine ⟨_, rfl, ?_⟩
      have dts : Dq No H2 (.ref t) (tabD (tpQ m)) := by
        refine .tup (fun z => z.elim) et (dqAll_of (by unfold tpQ tabF; rw [List.length_map, List.length_map, List.length_map, List.length_range, tl]) fun j v e => ?_)
        obtain ⟨r, er, rfl⟩ := map_some e
        have hj : j < m.length := by
          have := (List.getElem?_eq_some_iff.mp er).1
          omega
        obtain ⟨g1, g2⟩ := hts j r er
        refine ⟨rowD ((List.range m.length).map fun i => mgQ m i j), ?_, .tup (fun z => z.elim) g2 (dqAll_of ?_ fun i v e => ?_)⟩
        · unfold tpQ tabF
          rw [List.getElem?_map, List.getElem?_map, List.getElem?_range hj]
          rfl
        · unfold Bt.colV
          rw [List.length_map, List.length_map, List.length_map, List.length_range, List.length_range, al]
        · have hi : i < m.length := by
            have := (List.getElem?_eq_some_iff.mp e).1
            unfold Bt.colV at this
            rw [List.length_map, List.length_range] at this
            omega
          obtain ⟨b', r', h1, h2, h3, h4⟩ := hrows i hi
          have rl := h4.length
          have rl2 := T.rows r' (List.mem_of_getElem? h2)
          rw [List.length_map] at rl
          have e1 : (rows i)[j]? = some ((rows i)[j]'(by omega)) := List.getElem?_eq_getElem (by omega)
          rw [Bt.colV_at (by omega) e1] at e
          obtain rfl := Option.some.inj e
          obtain ⟨d, hd3, dv⟩ := h4.at e1
          rw [List.getElem?_map] at hd3
          cases z : r'[j]? with
          | none =>
            rw [z] at hd3
            cases hd3
          | some q0 =>
            rw [z] at hd3
            obtain rfl := Option.some.inj hd3
            refine ⟨frD q0, ?_, ?_⟩
            · rw [List.getElem?_map, List.getElem?_map, List.getElem?_range hi]
              show some (frD (mgQ m i j)) = _
              rw [mg_at h2 z]
            · exact (dv.keep (Kp.same s2)).weak fun _ z => z.elim
      refine ⟨_, _, tab_dp dts, tab_dp (hd.keep (Kp.same s2)), tab_shaped _, tab_shaped _, ?_⟩
      rw [tab_eqv]
      exact q H2 _ s2 (by rw [decide_eq_true_eq])
/-- the weights that were drawn, looked at -/
def spChW : Sp := fun vs H Q _ => ∃ (W : Addr → Prop) (v : V) (n : Nat) (R : Nat → Nat → Rat), vs = [v] ∧ Dq W H v (tabD (tabF n R)) ∧ 1 ≤ n ∧ n ≤ 6 ∧ Bnds n R ∧ ∀ H', Same H H' → Q .non H'
/-- the weights that were drawn are weights -/
def spWts : Sp := fun vs H Q _ => ∃ (W : Addr → Prop) (v : V) (n : Nat) (R : Nat → Nat → Rat), vs = [v] ∧ Dq W H v (tabD (tabF n R)) ∧ 1 ≤ n ∧ n ≤ 6 ∧ Bnds n R ∧ ∀ H', Same H H' → Q (.bl true) H'
theorem ok_wts {f : Addr} {fd : FuncData} (F : Fun K "is_weights" "is_weights" sis_weights f fd) (M : Mb mg) (Dis_table : Df P w K mg base 5 "is_table" ["value"] (spAskN isTable)) (Dis_mirrored : Df P w K mg base 1 "is_mirrored" ["table"] spMirr) (Dis_whole_table : Df P w K mg base 2 "is_whole_table" ["table"] spWhole) (Dtotal : Df P w K mg base 3 "total" ["fractions"] (spTotal K)) :
    FnOk P w K mg base CX0 6 f fd ["value"] spWts := by
  refine F.ok cis_weights (fun vs H Q E h => ?_) (fun cdv A outer s H vs Q E hr h => ?_)
  · obtain ⟨_, v, n, R, rfl, _⟩ := h
    rfl
  · obtain ⟨W, v, n, R, rfl, hd, n1, n6, bn, q⟩ := h
    refine ⟨_, (pss_cons (ps_if (PW.pt (pw_or (pt_not (pt_val (pe_call Dis_table.G (hr.mono (by first | decide | omega)) rfl Dis_table.g Dis_table.kp Dis_table.b .nil pass0 (pa_cons (pv 0) pa_nil)))) (pw_or (pt_not (pt_val (pe_call Dis_mirrored.G (hr.mono (by first | decide | omega)) rfl Dis_mirrored.g Dis_mirrored.kp Dis_mirrored.b .nil pass0 (pa_cons (pv 0) pa_nil)))) (pw_or1 (pt_not (pt_val (pe_call Dis_whole_table.G (hr.mono (by first | decide | omega)) rfl Dis_whole_table.g Dis_whole_table.kp Dis_whole_table.b .nil pass0 (pa_cons (pv 0) pa_nil))))))))
 (pss_one (ps_ret pe_bl))
 pss_nil)
 (pss_one (ps_ret (pe_callB (cr_all rfl) (by rfl) M.all (by decide +kernel) (pa_cons (pe_lc (own := [("row", 1)]) rfl cis_weights.nd (pi_tup (pv 0)) (blkOk_by (own := [("row", 1)]) (N := nis_weights) (sc := defScope sis_weights) (by decide +kernel)) (fun _ _ _ _ _ => (pg_name (i := 1) cis_weights.nd rfl (.inl rfl))) (fun _ _ _ _ _ => pts_nil) (fun _ _ _ _ _ => (pe_cmpR op_gt (pe_ix (ix_tupK (K := K) rfl) (pe_call Dtotal.G (hr.mono (by first | decide | omega)) rfl Dtotal.g Dtotal.kp Dtotal.b .nil pass0 (pa_cons (pv 1) pa_nil)) pe_int (fun _ _ => rfl)) pe_int (nomark _)))) pa_nil))))), ?_⟩
    have T := bn_tab bn n1 n6
    have it : isTable (tabD (tabF n R)) = true := isTable_iff.mpr ⟨_, rfl, T⟩
    have tp : tpQ (tabF n R) = tabF n R := by
      unfold tpQ
      rw [tabF_len]
      exact tabF_congr fun i j hi hj => by rw [mg_tabF hj hi, bn.sy]
    refine ⟨_, rfl, W, v, _, rfl, hd, fun H1 s1 => ?_⟩
    rw [it]
    refine ⟨_, rfl, ifF (by simp) ?_⟩
    refine ⟨_, rfl, W, v, _, rfl, hd.keep (Kp.same s1), T, fun H2 b s2 hb => ?_⟩
    have eb : b = true := hb.mpr tp
    subst eb
    refine ⟨_, rfl, ifF (by simp) ?_⟩
    refine ⟨_, rfl, W, v, _, rfl, hd.keep (Kp.same (s1.trans s2)), T, fun H3 b s3 hb3 => ?_⟩
    have eb : b = true := hb3.mpr (bn_strong bn)
    subst eb
    refine ⟨_, rfl, ifF (by simp) ?_⟩
    have s13 := (s1.trans s2).trans s3
    obtain ⟨a, xs, rfl, na, ea, el⟩ := (hd.keep (Kp.same s13)).tupI
    unfold tabF at el
    have xl : xs.length = n := by
      have := el.length
      simpa using this
    refine ⟨_, rfl, a, rfl, ⟨xs, .of ea⟩, fun D nD => lc_rel (walk_tup (K := K) (a := a) (xs := xs)) No (fun H' i y => y = .bl true) (fun _ _ _ _ _ r => r) nD (fun _ z => z.elim) (by omega) (fun H' k' => .of (no_same k' _ _ ea)) ?_ ?_⟩
    · rintro i x H4 _ Q' hi k4 nD4 ⟨rfl, hx⟩ q'
      have s4 := no_same k4
      obtain ⟨hin, dy⟩ := tab_at el hx
      obtain ⟨b, ys, rfl, nb, eb2, er⟩ := (dy.keep (Kp.same s4)).tupI
      refine ⟨rfl, _, rfl, b, ys, _, 20, rfl, .of eb2, dq_row er, fun p hp => ?_, by rw [List.length_map, List.length_range]; omega, fun v3 H5 s5 f5 _ => ?_⟩
      · obtain ⟨j, _, rfl⟩ := List.mem_map.mp hp
        exact wt_sz (bn.wt i j)
      · obtain ⟨c, rfl, hc⟩ := f5
        have rp := row_posR bn hin
        refine ⟨c, _, 0, _, rfl, rfl, hc, rfl, _, _, rfl, rfl, q' _ _ (Kp.same s5) ?_⟩
        exact congrArg V.bl (decide_eq_true (Bq.num_pos.mpr rp))
    · rintro H4 acc k4 eD hla ha
      have e1 : acc = (List.replicate n true).map V.bl := bls_of (by rw [List.length_replicate]; omega) fun i v e => by
        have hi : i < n := by
          have := (List.getElem?_eq_some_iff.mp e).1
          omega
        exact ⟨true, ha i v e, by rw [List.getElem?_replicate, if_pos hi]⟩
      rw [e1] at eD
      refine ⟨D, _, rfl, .of eD, ?_⟩
      have e2 : (List.replicate n true).all id = true := by
        rw [List.all_eq_true]
        intro b hb
        exact List.eq_of_mem_replicate hb
      rw [e2]
      exact q H4 (s13.trans (no_same k4))
theorem ok_chw {f : Addr} {fd : FuncData} (F : Fun K "check_weights" "check_weights" scheck_weights f fd) (M : Mb mg) (Dis_weights : Df P w K mg base 6 "is_weights" ["value"] spWts) :
    FnOk P w K mg base CX0 7 f fd ["weights"] spChW := by
  refine F.ok ccheck_weights (fun vs H Q E h => ?_) (fun cdv A outer s H vs Q E hr h => ?_)
  · obtain ⟨_, v, n, R, rfl, _⟩ := h
    rfl
  · obtain ⟨W, v, n, R, rfl, hd, n1, n6, bn, q⟩ := h
    refine ⟨_, (pss_one (ps_if (pt_not (pt_val (pe_call Dis_weights.G (hr.mono (by first | decide | omega)) rfl Dis_weights.g Dis_weights.kp Dis_weights.b .nil pass0 (pa_cons (pv 0) pa_nil))))
 (pss_one ps_never)
 pss_nil)), ?_⟩
    refine ⟨_, rfl, W, v, n, R, rfl, hd, n1, n6, bn, fun H1 s1 => ?_⟩
    exact ⟨_, rfl, ifF (by simp) (q H1 s1)⟩
/-- a place of the weights -/
def spChP : Sp := fun vs H Q _ => ∃ (W : Addr → Prop) (v : V) (n : Nat) (R : Nat → Nat → Rat) (x : Nat), vs = [v, .int (x : Nat)] ∧ Dq W H v (tabD (tabF n R)) ∧ x < n ∧ n ≤ 6 ∧ ∀ H', Same H H' → Q .non H'
theorem ok_chp {f : Addr} {fd : FuncData} (F : Fun K "check_place" "check_place" scheck_place f fd) (M : Mb mg) (Dis_place : Df P w K mg base 2 "is_place" ["value", "many"] spPlace) :
    FnOk P w K mg base CX0 3 f fd ["weights", "place"] spChP := by
  refine F.ok ccheck_place (fun vs H Q E h => ?_) (fun cdv A outer s H vs Q E hr h => ?_)
  · obtain ⟨_, v, n, R, x, rfl, _⟩ := h
    rfl
  · obtain ⟨W, v, n, R, x, rfl, hd, hx, n6, q⟩ := h
    refine ⟨_, (pss_one (ps_if (pt_not (pt_val (pe_call Dis_place.G (hr.mono (by first | decide | omega)) rfl Dis_place.g Dis_place.kp Dis_place.b .nil pass0 (pa_cons (pv 1) (pa_cons (pe_callB call_len_seq (by rfl) M.len (by decide +kernel) (pa_cons (pv 0) pa_nil)) pa_nil)))))
 (pss_one ps_never)
 pss_nil)), ?_⟩
    obtain ⟨a, xs, rfl, na, ea, el⟩ := hd.tupI
    have xl : xs.length = n := by
      have := el.length
      unfold tabF at this
      simpa using this
    refine ⟨_, rfl, _, rfl, a, xs, rfl, .inr (.of ea), No, .int (x : Nat), .int (x : Nat), (xs.length : Nat), rfl, .int _, ?_⟩
    have e : isPl ((xs.length : Nat) : Int) (.int (x : Nat)) = true := by
      show (decide ((0 : Int) ≤ (x : Nat)) && decide (((x : Nat) : Int) < ((xs.length : Nat) : Int))) = true
      rw [decide_eq_true (by omega), decide_eq_true (by omega)]
      rfl
    rw [e]
    exact ⟨_, rfl, ifF (by simp) (q H (.refl H))⟩
/-- two unlike places of the weights -/
def spChE : Sp := fun vs H Q _ => ∃ (W : Addr → Prop) (v : V) (n : Nat) (R : Nat → Nat → Rat) (x y : Nat), vs = [v, .int (x : Nat), .int (y : Nat)] ∧ Dq W H v (tabD (tabF n R)) ∧ 1 ≤ n ∧ n ≤ 6 ∧ Bnds n R ∧ x < n ∧ y < n ∧ x ≠ y ∧ ∀ H', Same H H' → Q .non H'
theorem ok_che {f : Addr} {fd : FuncData} (F : Fun K "check_ends" "check_ends" scheck_ends f fd) (M : Mb mg) (Dcheck_weights : Df P w K mg base 7 "check_weights" ["weights"] spChW) (Dcheck_place : Df P w K mg base 3 "check_place" ["weights", "place"] spChP) :
    FnOk P w K mg base CX0 8 f fd ["weights", "one", "two"] spChE := by
  refine F.ok ccheck_ends (fun vs H Q E h => ?_) (fun cdv A outer s H vs Q E hr h => ?_)
  · obtain ⟨_, v, n, R, x, y, rfl, _⟩ := h
    rfl
  · obtain ⟨W, v, n, R, x, y, rfl, hd, n1, n6, bn, hx, hy, ne, q⟩ := h
    refine ⟨_, (pss_cons (ps_expr (pe_call Dcheck_weights.G (hr.mono (by first | decide | omega)) rfl Dcheck_weights.g Dcheck_weights.kp Dcheck_weights.b .nil pass0 (pa_cons (pv 0) pa_nil)))
 (pss_cons (ps_expr (pe_call Dcheck_place.G (hr.mono (by first | decide | omega)) rfl Dcheck_place.g Dcheck_place.kp Dcheck_place.b .nil pass0 (pa_cons (pv 0) (pa_cons (pv 1) pa_nil))))
 (pss_cons (ps_expr (pe_call Dcheck_place.G (hr.mono (by first | decide | omega)) rfl Dcheck_place.g Dcheck_place.kp Dcheck_place.b .nil pass0 (pa_cons (pv 0) (pa_cons (pv 2) pa_nil))))
 (pss_one (ps_if (pt_cmpR op_eq (pv 1) (pv 2) (nomark _))
 (pss_one ps_never)
 pss_nil))))), ?_⟩
    refine ⟨_, rfl, W, v, n, R, rfl, hd, n1, n6, bn, fun H1 s1 => ?_⟩
    refine ⟨_, rfl, _, rfl, W, v, n, R, x, rfl, hd.keep (Kp.same s1), hx, n6, fun H2 s2 => ?_⟩
    refine ⟨_, rfl, _, rfl, W, v, n, R, y, rfl, hd.keep (Kp.same (s1.trans s2)), hy, n6, fun H3 s3 => ?_⟩
    refine ⟨_, rfl, _, rfl, rfl, _, rfl, ifF (fun z => ?_) (q H3 ((s1.trans s2).trans s3))⟩
    have := V.int.inj (of_decide_eq_true z)
    omega
end
end Kx
/-! Part 27. repr of a tuple of data. -/
namespace Bw
open PySem PySem.Spec PyProof.Rows L2
section
variable {prog : Program} {w : World} {h₀ : Heap}
theorem repr_tup {a : Addr} {xs : List PyData} {A : Around} {E : Value → Shared → Prop} {s : Shared} {Q : Value → Shared → Prop}
    (r : RdS s.heap (.ref a) (.tuple xs)) (hs : PyData.showableAll xs = true) (hz : (PyData.tuple xs).shown.length ≤ sizeLine)
    (hg : A.guards = some []) (hu : A.units + ((PyData.tuple xs).depth + 1) < cLine)
    (hQ : ∀ h' u tk, (∀ b o, s.heap.get? b = some o → h'.get? b = some o) → Q (.str (PyData.tuple xs).shown u) { s with heap := h', toks := tk }) :
    wpAny (model prog w) A (call (.builtin "repr") [.ref a]) Q E s := by
  have deep : PyData.depthAll xs < (PyData.tuple xs).depth := by simp only [PyData.depth]; omega
  obtain ⟨_, rr⟩ := r.reads
  cases r with
  | tuple h1 h2 h3 h4 =>
    rename_i o vs n
    have hz' : (tupleText (PyData.shownAll xs)).length ≤ sizeLine := by simpa only [PyData.shown] using hz
    obtain ⟨bs, hb, hk⟩ := RdSAll.reprK (prog := prog) (w := w) h4 hs fun t ht => Nat.le_trans (tupleText_mem_le ht) hz'
    simp only [PyData.depth] at hu
    simp only [PyData.shown] at hQ
    refine call_repr_slot (by omega) ⟨o, h1, h2⟩ F.slot_tuple_repr ?_
    exact call_tuple_reprK h1 h2 h3 (not_mem_of_deeper rr deep hb) hk
        hg (fun b _ => Clear.nil b) (by show A.units + 1 + (PyData.depthAll xs + 1) < cLine; omega) (fun _ _ e => e)
        (fun h' u tk hk => ⟨_, _, rfl, hQ h' u tk hk⟩) hz'
end
section
variable {X : Cx}
/-- repr(xs), xs a tuple of data -/
def rReprT : List V → Hp → VK → Prop := fun vs H Q => ∃ (W : Addr → Prop) (v : V) (xs : List PyData), vs = [v] ∧ Dq W H v (.tuple xs) ∧ PyData.showableAll xs = true ∧
  (PyData.tuple xs).shown.length ≤ sizeLine ∧ (PyData.tuple xs).depth ≤ 60 ∧ Q (.str (PyData.tuple xs).shown) H
theorem call_reprT {k : Nat} (hG : X.A.guards = some []) (hr : Room k X.A) : CallR X (.builtin "repr") rReprT := by
  intro pins s σ H xs us Q I r h
  obtain ⟨W, v, ds, rfl, hd, hs, hz, hdp, q⟩ := h
  obtain ⟨u, rfl, ru⟩ := Vals.one r
  have hu := hr.units
  cases hd with
  | tup n e h =>
    have rr := Dq.rds I u (.tup n e h) ru
    obtain rfl : u = _ := ru
    exact repr_tup rr hs hz hG (by omega) fun h' t tk hk => ⟨.str _, H, I.kept (t' := tk) hk, ⟨t, rfl⟩, q⟩
end
end Bw
/-! repr of data that may hold the program's constants. -/
namespace Bw
open PySem PySem.Spec PyProof.Rows L2
section
variable {X : Cx} {pins : List (Addr × Obj)} {σ : L2.St} {H : Hp} {s : Shared}
mutual
theorem Dp.rds (I : Inv X pins σ H s) : ∀ (d : PyData) (v : V) (u : Value), Dp X.K H v d → RelV v u → RdS s.heap u d
  | _, _, _, .non, r => by cases r; exact .none
  | _, _, _, .bl b, r => by cases r; exact .bool b
  | _, _, _, .int i, r => by obtain ⟨t, rfl⟩ := r; exact .int i t
  | _, _, _, .str x, r => by obtain ⟨t, rfl⟩ := r; exact .str x t
  | _, _, _, .lst (a := a) (xs := xs) e h, r => by
    cases r
    obtain ⟨its, rv, pl, _⟩ := I.list e
    obtain ⟨o, ho, hc, n, hd⟩ := pl.isList
    exact .list ho hc hd (DpAll.rds I _ _ its h rv)
  | _, _, _, .tup (a := a) (xs := xs) e h, r => by
    cases r
    obtain ⟨its, rv, ⟨o, ho, hc, n, hd⟩, _⟩ := I.tuple e
    exact .tuple ho hc hd (DpAll.rds I _ _ its h rv)
theorem DpAll.rds (I : Inv X pins σ H s) : ∀ (ds : List PyData) (vs : List V) (us : List Value), DpAll X.K H vs ds → Vals vs us → RdSAll s.heap us ds
  | _, _, _, .nil, r => by cases r; exact .nil
  | _, _, _, .cons h t, r => by
    cases r with
    | cons r1 r2 => exact .cons (Dp.rds I _ _ _ h r1) (DpAll.rds I _ _ _ t r2)
end
/-- repr(xs), xs a list or a tuple of data, the program's constants among them -/
def rReprP (K : PySem.W.Frag) : List V → Hp → VK → Prop := fun vs H Q => ∃ (v : V) (xs : List PyData), vs = [v] ∧ PyData.showableAll xs = true ∧
  ((Dp K H v (.list xs) ∧ (PyData.list xs).shown.length ≤ sizeLine ∧ (PyData.list xs).depth ≤ 60 ∧ Q (.str (PyData.list xs).shown) H) ∨
   (Dp K H v (.tuple xs) ∧ (PyData.tuple xs).shown.length ≤ sizeLine ∧ (PyData.tuple xs).depth ≤ 60 ∧ Q (.str (PyData.tuple xs).shown) H))
theorem call_reprP {k : Nat} (hG : X.A.guards = some []) (hr : Room k X.A) : CallR X (.builtin "repr") (rReprP X.K) := by
  intro pins s σ H xs us Q I r h
  obtain ⟨v, ds, rfl, hs, h⟩ := h
  obtain ⟨u, rfl, ru⟩ := Vals.one r
  have hu := hr.units
  rcases h with ⟨hd, hz, hdp, q⟩ | ⟨hd, hz, hdp, q⟩
  · have rr := Dp.rds I _ _ u hd ru
    cases hd with
    | lst e h =>
      obtain rfl : u = _ := ru
      exact repr_list rr hs hz hG (by omega) fun h' t tk hk => ⟨.str _, H, I.kept (t' := tk) hk, ⟨t, rfl⟩, q⟩
  · have rr := Dp.rds I _ _ u hd ru
    cases hd with
    | tup e h =>
      obtain rfl : u = _ := ru
      exact repr_tup rr hs hz hG (by omega) fun h' t tk hk => ⟨.str _, H, I.kept (t' := tk) hk, ⟨t, rfl⟩, q⟩
end
end Bw
set_option exponentiation.threshold 10000
/-! The program: driving heights; how far. -/
namespace Kx
open PySem PySem.Spec PyProof.Rows L2 Bw
abbrev sdriving_heights : Stmt := topS 38
abbrev ndriving_heights : List Str := ["weights", "one", "two", "others", "place", "going_out", "heights", "row"]
theorem cdriving_heights : FnScope ndriving_heights ["weights", "one", "two"] (defScope sdriving_heights) :=
  ⟨rfl, rfl, rfl, by decide +kernel, rfl, by decide +kernel, by decide +kernel⟩

abbrev sapart : Stmt := topS 39
abbrev napart : List Str := ["weights", "one", "two"]
theorem capart : FnScope napart ["weights", "one", "two"] (defScope sapart) :=
  ⟨rfl, rfl, rfl, by decide +kernel, rfl, by decide +kernel, by decide +kernel⟩

theorem frs_dp {K : PySem.W.Frag} {H : Hp} : ∀ {xs : List V} {qs : List Rat}, FrRow K H xs qs → DpAll K H xs (qs.map frD)
  | [], [], _ => .nil
  | [], _ :: _, h => by
    have := h.1
    simp at this
  | _ :: _, [], h => by
    have := h.1
    simp at this
  | x :: xs, q :: qs, h => .cons (fr_dp (h.2 0 x q rfl rfl)) (frs_dp ⟨by simpa using h.1, fun i v r e1 e2 => h.2 (i + 1) v r e1 e2⟩)
theorem frt_dp {K : PySem.W.Frag} {H : Hp} {a : Addr} {xs : List V} {qs : List Rat} (h : SqT K H a xs) (f : FrRow K H xs qs) : Dp K H (.ref a) (rowD qs) := .tup h (frs_dp f)
theorem cut_to {xs : List V} {n : Nat} (h : n ≤ xs.length) : cutV xs none (some (n : Int)) = xs.take n := by
  unfold cutV
  rw [HT.sIx_none, HT.sIx_nat, Nat.min_eq_left h]
  simp
theorem frRow_cons {K : PySem.W.Frag} {H : Hp} {x : V} {q : Rat} {xs : List V} {qs : List Rat} (a : FrR K H x q) (h : FrRow K H xs qs) : FrRow K H (x :: xs) (q :: qs) := by
  refine ⟨by rw [List.length_cons, List.length_cons, h.1], fun i v r e1 e2 => ?_⟩
  cases i with
  | zero =>
    obtain rfl := Option.some.inj (show some x = some v from e1)
    obtain rfl := Option.some.inj (show some q = some r from e2)
    exact a
  | succ i => exact h.2 i v r e1 e2
theorem frRow_take {K : PySem.W.Frag} {H : Hp} {xs : List V} {qs : List Rat} (h : FrRow K H xs qs) (n : Nat) : FrRow K H (xs.take n) (qs.take n) := by
  refine ⟨by rw [List.length_take, List.length_take, h.1], fun i v r e1 e2 => ?_⟩
  have hi := (List.getElem?_eq_some_iff.mp e1).1
  rw [List.length_take] at hi
  rw [List.getElem?_take, if_pos (by omega)] at e1 e2
  exact h.2 i v r e1 e2
theorem frRow_drop {K : PySem.W.Frag} {H : Hp} {xs : List V} {qs : List Rat} (h : FrRow K H xs qs) (n : Nat) : FrRow K H (xs.drop n) (qs.drop n) := by
  refine ⟨by rw [List.length_drop, List.length_drop, h.1], fun i v r e1 e2 => ?_⟩
  rw [List.getElem?_drop] at e1 e2
  exact h.2 _ v r e1 e2
/-- the row of heights, the second place's put in -/
theorem hgt_row (k one two : Nat) (R : Nat → Nat → Rat) (ht : two < k + 1) : ((List.range k).map fun c => slvQ k 1 (hF k two R) (hG one two) c 0).take two ++ 0 :: ((List.range k).map fun c => slvQ k 1 (hF k two R) (hG one two) c 0).drop two = (List.range (k + 1)).map (hgt k one two R) := by
  apply List.ext_getElem?
  intro i
  have l1 : (((List.range k).map fun c => slvQ k 1 (hF k two R) (hG one two) c 0).take two).length = two := by
    rw [List.length_take, List.length_map, List.length_range]
    omega
  by_cases c : i < two
  · rw [List.getElem?_append_left (by omega), List.getElem?_take, if_pos c, List.getElem?_map, List.getElem?_range (by omega), List.getElem?_map, List.getElem?_range (by omega)]
    show some _ = some (hgt k one two R i)
    unfold hgt
    rw [if_pos c]
  · rw [List.getElem?_append_right (by omega), l1]
    by_cases d : i = two
    · subst d
      rw [Nat.sub_self, List.getElem?_map, List.getElem?_range (by omega)]
      show some 0 = some (hgt k one i R i)
      rw [hgt_two]
    · obtain ⟨j, hj⟩ : ∃ j, i - two = j + 1 := ⟨i - two - 1, by omega⟩
      rw [hj, List.getElem?_cons_succ, List.getElem?_drop]
      by_cases e : i < k + 1
      · rw [List.getElem?_map, List.getElem?_range (by omega), List.getElem?_map, List.getElem?_range e]
        show some _ = some (hgt k one two R i)
        unfold hgt
        rw [if_neg c, if_neg d, show i - 1 = two + j by omega]
      · rw [List.getElem?_eq_none (by rw [List.length_map, List.length_range]; omega), List.getElem?_eq_none (by rw [List.length_map, List.length_range]; omega)]
section
variable {P : Program} {w : World} {K : PySem.W.Frag} {mg : Str → Option Value} {base : Heap}
def spHts (K : PySem.W.Frag) : Sp := fun vs H Q _ => ∃ (W : Addr → Prop) (v : V) (k : Nat) (R : Nat → Nat → Rat) (one two : Nat), vs = [v, .int (one : Nat), .int (two : Nat)] ∧ Dq W H v (tabD (tabF (k + 1) R)) ∧ k + 1 ≤ 6 ∧ Bnds (k + 1) R ∧ one < k + 1 ∧ two < k + 1 ∧ one ≠ two ∧
  ∀ a xs H', Same H H' → H a = none → H' a = some (.tup xs) → FrRow K H' xs ((List.range (k + 1)).map (hgt k one two R)) → Q (.ref a) H'
theorem ok_dh {f : Addr} {fd : FuncData} (F : Fun K "driving_heights" "driving_heights" sdriving_heights f fd) (M : Mb mg) (Z : Mp K mg) (Dtree_square : Df P w K mg base 4 "tree_square" ["table", "root"] (spTreeSq K)) (Dsolved : Df P w K mg base 3 "solved" ["square", "sides"] (spSolved K)) :
    FnOk P w K mg base CX0 5 f fd ["weights", "one", "two"] (spHts K) := by
  refine F.ok cdriving_heights (fun vs H Q E h => ?_) (fun cdv A outer s H vs Q E hr h => ?_)
  · obtain ⟨_, v, k, R, one, two, rfl, _⟩ := h
    rfl
  · obtain ⟨W, v, n, R, one, two, rfl, hd, n6, bn, h1, h2, ne, q⟩ := h
    refine ⟨_, (pss_cons (ps_setLc (i := 3) (own := [("place", 4)]) rfl cdriving_heights.nd rfl rfl (sw_true rfl rfl rfl (by decide +kernel)) (pi_range1 (by rfl) M.range (pa_cons (pe_callB call_len_seq (by rfl) M.len (by decide +kernel) (pa_cons (pv 0) pa_nil)) pa_nil)) (blkOk_by (own := [("place", 4)]) (N := ndriving_heights) (sc := defScope sdriving_heights) (by decide +kernel)) (fun _ _ _ _ _ => (pg_name (i := 4) cdriving_heights.nd rfl (.inl rfl))) (fun _ _ _ _ _ => (pts_one (pt_cmpR op_ne (pv 4) (pv 2) (nomark _)))) (fun _ _ _ _ _ => (pv 4)))
 (pss_cons (ps_setLc (i := 5) (own := [("place", 4)]) rfl cdriving_heights.nd rfl rfl (sw_true rfl rfl rfl (by decide +kernel)) (pi_list (pv 3)) (blkOk_by (own := [("place", 4)]) (N := ndriving_heights) (sc := defScope sdriving_heights) (by decide +kernel)) (fun _ _ _ _ _ => (pg_name (i := 4) cdriving_heights.nd rfl (.inl rfl))) (fun _ _ _ _ _ => pts_nil) (fun _ _ _ _ _ => (pe_lst (pa_cons (pe_ifExp (pt_cmpR op_eq (pv 4) (pv 1) (nomark _)) (pe_glob (v := .ref Z.oneA) rfl Z.one rfl) (pe_glob (v := .ref Z.nilA) rfl Z.nil rfl)) pa_nil))))
 (pss_cons (ps_setLc (i := 6) (own := [("row", 7)]) rfl cdriving_heights.nd rfl rfl (sw_true rfl rfl rfl (by decide +kernel)) (pi_list (pe_call Dsolved.G (hr.mono (by first | decide | omega)) rfl Dsolved.g Dsolved.kp Dsolved.b .nil pass0 (pa_cons (pe_call Dtree_square.G (hr.mono (by first | decide | omega)) rfl Dtree_square.g Dtree_square.kp Dtree_square.b .nil pass0 (pa_cons (pv 0) (pa_cons (pv 2) pa_nil))) (pa_cons (pv 5) pa_nil)))) (blkOk_by (own := [("row", 7)]) (N := ndriving_heights) (sc := defScope sdriving_heights) (by decide +kernel)) (fun _ _ _ _ _ => (pg_name (i := 7) cdriving_heights.nd rfl (.inl rfl))) (fun _ _ _ _ _ => pts_nil) (fun _ _ _ _ _ => (pe_ix (ix_listK (K := K) rfl) (pv 7) pe_int (fun _ _ => rfl))))
 (pss_one (ps_ret (pe_callTy call_tuple_of (by rfl) M.tuple (by decide +kernel) (pa_cons (pe_op op_cat (pe_op op_cat (pe_slice sl_list (pv 6) po_none (po_some (pv 2))) (pe_lst (pa_cons (pe_glob (v := .ref Z.nilA) rfl Z.nil rfl) pa_nil))) (pe_slice sl_list (pv 6) (po_some (pv 2)) po_none)) pa_nil))))))), ?_⟩
    obtain ⟨a, xs, rfl, na, ea, el⟩ := hd.tupI
    have xl : xs.length = n + 1 := by
      have := el.length
      unfold tabF at this
      simpa using this
    refine ⟨_, rfl, a, xs, rfl, .inr (.of ea), _, rfl, by omega, by omega, fun O nO => ?_⟩
    have el2 : ((xs.length : Nat) : Int).toNat = n + 1 := by omega
    rw [el2]
    refine lc_filtR (n := n + 1) (fun t => !decide (t = two)) nO (by omega) (fun x _ => rfl) (fun x => rfl) ?_ ?_
    · rintro i H2 T hi s2 nD2 q2
      refine ⟨_, rfl, _, rfl, rfl, _, rfl, ?_⟩
      have e : (!decide (V.int ((i : Nat) : Int) = V.int ((two : Nat) : Int))) = !decide (i = two) := by
        congr 1
        rw [decide_eq_decide]
        constructor
        · intro z
          have := V.int.inj z
          omega
        · intro z
          rw [z]
      rw [e]
      exact q2 H2 (.refl _)
    · rintro H2 s2 eO
      rw [others_eq, if_pos h2, Nat.add_sub_cancel] at eO
      have ol : (((List.range n).map (sk two)).map fun i : Nat => V.int i).length = n := by simp
      have oat : ∀ i, i < n → (((List.range n).map (sk two)).map fun i : Nat => V.int i)[i]? = some (.int (sk two i : Nat)) := fun i hi => by
        rw [List.getElem?_map, List.getElem?_map, List.getElem?_range hi]
        rfl
      generalize ((List.range n).map (sk two)).map (fun i : Nat => V.int i) = os at eO ol oat
      refine ⟨_, rfl, O, rfl, ⟨_, .of eO⟩, fun D nD => ?_⟩
      refine lc_rel (walk_list (K := K) (a := O) (xs := os)) No (fun H' i y => ∃ p, y = .ref p ∧ p ≠ D ∧ H' p = some (.lst [.ref (if sk two i = one then Z.oneA else Z.nilA)])) (fun H H' i v k r => ?_) nD (fun _ z => z.elim) (by omega) (fun H' k' => .of (no_same k' _ _ eO)) ?_ ?_
      · obtain ⟨p, rfl, ne, hp⟩ := r
        exact ⟨p, rfl, ne, k _ _ (fun z => z.elim id ne) hp⟩
      · rintro i x H3 _ Q' hi k3 nD3 ⟨rfl, hx⟩ q'
        rw [ol] at hi
        rw [oat i hi] at hx
        obtain rfl := Option.some.inj hx
        refine ⟨rfl, _, rfl, _, rfl, rfl, _, rfl, ite2 (fun c => ?_) (fun c => ?_)⟩
        · have e : sk two i = one := by
            have := V.int.inj (of_decide_eq_true c)
            omega
          refine ⟨sz63 (by show 1 ≤ 1000; decide), fun p np => q' _ _ (Kp.new np) ⟨p, rfl, fun z => nD3 (by rw [← z]; exact np), ?_⟩⟩
          rw [if_pos e]
          exact upd_same
        · have e : ¬ sk two i = one := fun z => c (by rw [z]; exact decide_eq_true rfl)
          refine ⟨sz63 (by show 1 ≤ 1000; decide), fun p np => q' _ _ (Kp.new np) ⟨p, rfl, fun z => nD3 (by rw [← z]; exact np), ?_⟩⟩
          rw [if_neg e]
          exact upd_same
      · rintro H3 acc k3 eD3 hla ha
        have s3 := no_same k3
        rw [ol] at hla
        obtain ⟨ss, rfl, hss⟩ := refs_of (acc := acc) (P := fun i p => p ≠ D ∧ H3 p = some (.lst [.ref (if sk two i = one then Z.oneA else Z.nilA)])) ha
        rw [List.length_map] at hla
        refine ⟨_, rfl, _, rfl, W, .ref a, n, 20, two, R, rfl, hd.keep (Kp.same (s2.trans s3)), h2, n6, by omega, fun i j _ _ => wt_sz (bn.wt i j), fun a4 rs4 H4 s4 m4 => ?_⟩
        have mG : MatQ K H4 D ss n 1 (hG one two) := ⟨s4 _ _ eD3, hla, fun i r e => by
          obtain ⟨_, e1⟩ := hss i r e
          refine ⟨_, s4 _ _ e1, ⟨by simp, fun j v q e2 e3 => ?_⟩⟩
          have hj := (List.getElem?_eq_some_iff.mp e2).1
          have hj0 : j = 0 := by
            simp at hj
            omega
          subst hj0
          obtain rfl := Option.some.inj (show some _ = some v from e2)
          obtain rfl := Option.some.inj (show some (hG one two i 0) = some q from e3)
          unfold hG
          by_cases c : sk two i = one
          · rw [if_pos c, if_pos c]
            exact ⟨_, rfl, Z.oneT _⟩
          · rw [if_neg c, if_neg c]
            exact ⟨_, rfl, Z.nilT _⟩⟩
        refine ⟨_, rfl, a4, D, rs4, ss, n, 1, 61, 37, hF n two R, hG one two, fun i => dnP (n + 1) R (sk two i), rfl, m4, mG, by omega, by omega, by omega, by omega, by omega, by omega, fun i j hi hj => hB_sz bn n6 i j hi hj, fun i hi => ⟨dnP_pos _, Nat.lt_of_le_of_lt (dnP_le bn n6 _) (by decide)⟩, h_good bn n6 h2, fun a5 rs5 H5 s5 n5 m5 => ?_⟩
        refine ⟨a5, rfl, ⟨_, .of m5.eA⟩, fun D6 nD6 => ?_⟩
        refine lc_rel (walk_list (K := K) (a := a5) (xs := rs5.map V.ref)) No (fun _ i y => FrR K H5 y (slvQ n 1 (hF n two R) (hG one two) i 0)) (fun _ _ _ _ _ r => r) nD6 (fun _ z => z.elim) (by rw [List.length_map, m5.len]; omega) (fun H' k' => .of (no_same k' _ _ m5.eA)) ?_ ?_
        · rintro i x H6 _ Q' hi k6 nD6' ⟨rfl, hx⟩ q'
          obtain ⟨r, er, rfl⟩ := map_some hx
          have s6 := no_same k6
          obtain ⟨zs, ez, fz⟩ := m5.row i r er
          have zl : zs.length = 1 := by
            have := fz.1
            simpa using this
          have e0 : zs[0]? = some (zs[0]'(by omega)) := List.getElem?_eq_getElem (by omega)
          have f0 := fz.2 0 _ (slvQ n 1 (hF n two R) (hG one two) i 0) e0 rfl
          refine ⟨rfl, _, rfl, r, zs, (0 : Int), _, rfl, rfl, .of (s6 _ _ ez), atI_nat e0, q' _ _ (.refl _) f0⟩
        · rintro H6 acc k6 eD6 hla ha
          have s6 := no_same k6
          rw [List.length_map, m5.len] at hla
          have fr6 : FrRow K H6 acc ((List.range n).map fun c => slvQ n 1 (hF n two R) (hG one two) c 0) := ⟨by rw [hla, List.length_map, List.length_range], fun i v q e1 e2 => by
            have hi : i < n := by
              have := (List.getElem?_eq_some_iff.mp e1).1
              omega
            rw [List.getElem?_map, List.getElem?_range hi] at e2
            obtain rfl := Option.some.inj e2
            exact (ha i v e1).same s6⟩
          have s06 := (((s2.trans s3).trans s4).trans s5).trans s6
          refine ⟨_, rfl, _, rfl, _, rfl, D6, acc, rfl, .of eD6, fun L1 n1 => ?_⟩
          rw [cut_to (by omega)]
          have s7 : Same H6 (upd H6 L1 (.lst (acc.take two))) := same_new n1
          have e7 : (upd H6 L1 (.lst (acc.take two))) L1 = some (.lst (acc.take two)) := upd_same
          generalize upd H6 L1 (.lst (acc.take two)) = H7 at s7 e7 ⊢
          refine ⟨sz63 (by show 1 ≤ 1000; decide), fun L2 n2 => ?_⟩
          have s8 : Same H7 (upd H7 L2 (.lst [.ref Z.nilA])) := same_new n2
          have e8 : (upd H7 L2 (.lst [.ref Z.nilA])) L2 = some (.lst [.ref Z.nilA]) := upd_same
          generalize upd H7 L2 (.lst [.ref Z.nilA]) = H8 at s8 e8 ⊢
          refine ⟨L1, L2, _, _, rfl, rfl, s8 _ _ e7, e8, sz63 (by rw [List.length_take]; show _ + 1 ≤ 1000; omega), fun L3 n3 => ?_⟩
          have s9 : Same H8 (upd H8 L3 (.lst (acc.take two ++ [.ref Z.nilA]))) := same_new n3
          have e9 : (upd H8 L3 (.lst (acc.take two ++ [.ref Z.nilA]))) L3 = some (.lst (acc.take two ++ [.ref Z.nilA])) := upd_same
          generalize upd H8 L3 (.lst (acc.take two ++ [.ref Z.nilA])) = H9 at s9 e9 ⊢
          have s69 := (s7.trans s8).trans s9
          refine ⟨_, rfl, _, rfl, _, rfl, ?_⟩
          dsimp only [tNoPart]
          refine ⟨D6, acc, rfl, .of (s69 _ _ eD6), fun L4 n4 => ?_⟩
          rw [cut_from (by omega)]
          have s10 : Same H9 (upd H9 L4 (.lst (acc.drop two))) := same_new n4
          have e10 : (upd H9 L4 (.lst (acc.drop two))) L4 = some (.lst (acc.drop two)) := upd_same
          generalize upd H9 L4 (.lst (acc.drop two)) = H10 at s10 e10 ⊢
          refine ⟨L3, L4, _, _, rfl, rfl, s10 _ _ e9, e10, sz63 (by rw [List.length_append, List.length_take, List.length_drop]; show _ + 1 + _ ≤ 1000; omega), fun L5 n5' => ?_⟩
          have s11 : Same H10 (upd H10 L5 (.lst (acc.take two ++ [.ref Z.nilA] ++ acc.drop two))) := same_new n5'
          have e11 : (upd H10 L5 (.lst (acc.take two ++ [.ref Z.nilA] ++ acc.drop two))) L5 = some (.lst (acc.take two ++ [.ref Z.nilA] ++ acc.drop two)) := upd_same
          generalize upd H10 L5 (.lst (acc.take two ++ [.ref Z.nilA] ++ acc.drop two)) = H11 at s11 e11 ⊢
          have s611 := (s69.trans s10).trans s11
          refine ⟨L5, _, rfl, .inl ⟨.of e11, fun t nt => ?_⟩⟩
          have s012 := (s06.trans s611).trans (same_new (o := .tup (acc.take two ++ [.ref Z.nilA] ++ acc.drop two)) nt)
          refine q t _ _ s012 ((s06.trans s611).free nt) upd_same ?_
          have f12 := fr6.same (s611.trans (same_new (o := .tup (acc.take two ++ [.ref Z.nilA] ++ acc.drop two)) nt))
          rw [← hgt_row n one two R h2]
          generalize upd H11 t (.tup (acc.take two ++ [.ref Z.nilA] ++ acc.drop two)) = H12 at f12 ⊢
          rw [List.append_assoc]
          exact frRow_app (frRow_take f12 two) (frRow_cons (q := 0) ⟨_, rfl, Z.nilT _⟩ (frRow_drop f12 two))
/-- how far two places are apart -/
def spApart (K : PySem.W.Frag) : Sp := fun vs H Q _ => ∃ (W : Addr → Prop) (v : V) (k : Nat) (R : Nat → Nat → Rat) (one two : Nat), vs = [v, .int (one : Nat), .int (two : Nat)] ∧ Dq W H v (tabD (tabF (k + 1) R)) ∧ k + 1 ≤ 6 ∧ Bnds (k + 1) R ∧ one < k + 1 ∧ two < k + 1 ∧
  ∀ v' H', Same H H' → FrR K H' v' (if one = two then 0 else hgt k one two R one) → Q v' H'
theorem ok_ap {f : Addr} {fd : FuncData} (F : Fun K "apart" "apart" sapart f fd) (M : Mb mg) (Z : Mp K mg) (Dcheck_weights : Df P w K mg base 7 "check_weights" ["weights"] spChW) (Dcheck_place : Df P w K mg base 3 "check_place" ["weights", "place"] spChP) (Ddriving_heights : Df P w K mg base 5 "driving_heights" ["weights", "one", "two"] (spHts K)) :
    FnOk P w K mg base CX0 8 f fd ["weights", "one", "two"] (spApart K) := by
  refine F.ok capart (fun vs H Q E h => ?_) (fun cdv A outer s H vs Q E hr h => ?_)
  · obtain ⟨_, v, k, R, one, two, rfl, _⟩ := h
    rfl
  · obtain ⟨W, v, n, R, one, two, rfl, hd, n6, bn, h1, h2, q⟩ := h
    refine ⟨_, (pss_cons (ps_expr (pe_call Dcheck_weights.G (hr.mono (by first | decide | omega)) rfl Dcheck_weights.g Dcheck_weights.kp Dcheck_weights.b .nil pass0 (pa_cons (pv 0) pa_nil)))
 (pss_cons (ps_expr (pe_call Dcheck_place.G (hr.mono (by first | decide | omega)) rfl Dcheck_place.g Dcheck_place.kp Dcheck_place.b .nil pass0 (pa_cons (pv 0) (pa_cons (pv 1) pa_nil))))
 (pss_cons (ps_expr (pe_call Dcheck_place.G (hr.mono (by first | decide | omega)) rfl Dcheck_place.g Dcheck_place.kp Dcheck_place.b .nil pass0 (pa_cons (pv 0) (pa_cons (pv 2) pa_nil))))
 (pss_cons (ps_if (pt_cmpR op_eq (pv 1) (pv 2) (nomark _))
 (pss_one (ps_ret (pe_glob (v := .ref Z.nilA) rfl Z.nil rfl)))
 pss_nil)
 (pss_one (ps_ret (pe_ix ix_tup (pe_call Ddriving_heights.G (hr.mono (by first | decide | omega)) rfl Ddriving_heights.g Ddriving_heights.kp Ddriving_heights.b .nil pass0 (pa_cons (pv 0) (pa_cons (pv 1) (pa_cons (pv 2) pa_nil)))) (pv 1) (fun _ _ => rfl)))))))), ?_⟩
    refine ⟨_, rfl, W, v, n + 1, R, rfl, hd, by omega, n6, bn, fun H1 s1 => ?_⟩
    refine ⟨_, rfl, _, rfl, W, v, n + 1, R, one, rfl, hd.keep (Kp.same s1), h1, n6, fun H2 s2 => ?_⟩
    refine ⟨_, rfl, _, rfl, W, v, n + 1, R, two, rfl, hd.keep (Kp.same (s1.trans s2)), h2, n6, fun H3 s3 => ?_⟩
    have s13 := (s1.trans s2).trans s3
    refine ⟨_, rfl, _, rfl, rfl, _, rfl, ite2 (fun c => ?_) (fun c => ?_)⟩
    · have e : one = two := by
        have := V.int.inj (of_decide_eq_true c)
        omega
      refine q _ H3 s13 ?_
      rw [if_pos e]
      exact ⟨_, rfl, Z.nilT _⟩
    · have e : one ≠ two := fun z => c (by rw [z]; exact decide_eq_true rfl)
      refine ⟨_, rfl, _, rfl, _, rfl, W, v, n, R, one, two, rfl, hd.keep (Kp.same s13), n6, bn, h1, h2, e, fun a xs H4 s4 na ea fr => ?_⟩
      have hl := fr.1
      rw [List.length_map, List.length_range] at hl
      have ev : xs[one]? = some (xs[one]'(by omega)) := List.getElem?_eq_getElem (by omega)
      refine ⟨_, rfl, a, xs, (one : Int), _, rfl, rfl, .of ea, atI_nat ev, q _ H4 (s13.trans s4) ?_⟩
      rw [if_neg e]
      exact fr.2 one _ _ ev (by rw [List.getElem?_map, List.getElem?_range h1]; rfl)
end
end Kx
set_option exponentiation.threshold 4000
/-! Part 16. How long fractions are when they are printed. -/
namespace Bw
open PySem PySem.Spec PyProof.Rows L2
theorem tuple_len (ts : List Str) : (tupleText ts).length ≤ 3 + piled ts := by
  unfold tupleText
  have h1 : (Str.join ", " ts).length ≤ piled ts := by
    by_cases c : ts = []
    · subst c
      exact Nat.zero_le _
    · have := join_length_add ts c
      omega
  have h2 : (((if (ts.length == 1) = true then ",)" else ")" : String)) : Str).length ≤ 2 := by
    split <;> decide +kernel
  have h3 : (("(" : String) : Str).length = 1 := by decide +kernel
  rw [strLen_append, strLen_append]
  omega
theorem shown_tup_le {n m : Nat} {ds : List PyData} (h : ∀ d ∈ ds, d.shown.length ≤ n) (hl : ds.length ≤ m) : (PyData.tuple ds).shown.length ≤ 3 + (n + 2) * m := by
  simp only [PyData.shown]
  have h1 := tuple_len (PyData.shownAll ds)
  have h2 : piled (PyData.shownAll ds) ≤ (n + 2) * (PyData.shownAll ds).length := piled_le fun t ht => by
    rw [shownAll_map] at ht
    obtain ⟨d, hd, rfl⟩ := List.mem_map.mp ht
    exact h d hd
  have h3 : (PyData.shownAll ds).length = ds.length := by rw [shownAll_map, List.length_map]
  rw [h3] at h2
  have h4 : (n + 2) * ds.length ≤ (n + 2) * m := Nat.mul_le_mul_left _ hl
  omega
theorem log_small {i : Int} (h : i.natAbs < 2 ^ 1900) : i.natAbs.log2 < 1920 := by
  by_cases z : i.natAbs = 0
  · rw [z]
    decide
  · refine (Nat.log2_lt z).mpr (Nat.lt_of_lt_of_le h (Nat.pow_le_pow_right (by decide) (by omega)))
theorem int_ok {i : Int} (h : i.natAbs < 2 ^ 1900) : (PyData.int i).showable = true ∧ (PyData.int i).shown.length ≤ 1921 ∧ (PyData.int i).depth = 0 := by
  have hl := log_small h
  refine ⟨?_, ?_, by simp only [PyData.depth]⟩
  · simp only [PyData.showable]
    exact decide_eq_true hl
  · simp only [PyData.shown]
    exact int_text_len_1921 hl
theorem of_show {i : Int} (h : (PyData.int i).showable = true) : decide (i.natAbs.log2 < 1920) = true := by
  simpa only [PyData.showable] using h
theorem fr_ok {q : Rat} (h : Bq.Sz 1900 q) : (frD q).showable = true ∧ (frD q).shown.length ≤ 3849 ∧ (frD q).depth ≤ 1 := by
  have h1 := int_ok (i := q.num) h.1
  have h2 := int_ok (i := (q.den : Int)) (Bq.den_abs h)
  refine ⟨?_, ?_, ?_⟩
  · unfold frD
    simp only [PyData.showable, PyData.showableAll, Bool.and_true, Bool.and_eq_true]
    exact ⟨of_show h1.1, of_show h2.1⟩
  · refine shown_tup_le (n := 1921) (m := 2) (fun d hd => ?_) (Nat.le_refl 2)
    rcases List.mem_cons.mp hd with rfl | hd
    · exact h1.2.1
    · rw [List.mem_singleton.mp hd]
      exact h2.2.1
  · unfold frD
    simp only [PyData.depth, PyData.depthAll]
    decide
theorem pair_ok {p q : Rat} (hp : Bq.Sz 1900 p) (hq : Bq.Sz 1900 q) : (PyData.tuple [frD p, frD q]).showable = true ∧ (PyData.tuple [frD p, frD q]).shown.length ≤ 10000 ∧ (PyData.tuple [frD p, frD q]).depth ≤ 9 := by
  have h1 := fr_ok hp
  have h2 := fr_ok hq
  refine ⟨?_, ?_, ?_⟩
  · simp only [PyData.showable, PyData.showableAll, Bool.and_true, Bool.and_eq_true]
    exact ⟨h1.1, h2.1⟩
  · have := shown_tup_le (n := 3849) (m := 2) (ds := [frD p, frD q]) (fun d hd => by
      rcases List.mem_cons.mp hd with rfl | hd
      · exact h1.2.1
      · rw [List.mem_singleton.mp hd]
        exact h2.2.1) (Nat.le_refl 2)
    omega
  · simp only [PyData.depth, PyData.depthAll]
    have e1 := h1.2.2
    have e2 := h2.2.2
    omega
end Bw
/-! Part 31. range(n) kept under a name, gone through. -/
namespace Bw
open PySem PySem.Spec PyProof.Rows L2
section
variable {X : Cx} {tg : Expr}
theorem cr_range1 : CallR X (.type "range") (fun vs H Q => ∃ j, vs = [V.int j] ∧ ∀ p, H p = none → Q (.ref p) (upd H p (.rng 0 j))) := by
  intro pins s σ H vs us Q I r h
  obtain ⟨j, rfl, q⟩ := h
  obtain ⟨u1, rfl, rj⟩ := Vals.one r
  obtain ⟨u, rfl⟩ := rj
  refine call_range_1 ⟨.ref s.heap.objs.size, upd H s.heap.objs.size (.rng 0 j), I.laid (t' := s.toks + 1 + 1) (fun b o e => Heap.get?_push_of_some _ e) (Nat.le_refl _) ?_, rfl, q _ (I.hok.fresh (Nat.le_refl _))⟩
  exact ⟨s.toks, u, s.toks + 1, Heap.get?_push_size _ rfl⟩
def iRngV (tl : TE) : TI := fun σ H R => tl σ H fun x H1 => ∃ a lo hi, x = .ref a ∧ H1 a = some (.rng lo hi) ∧ (-(2 ^ 62) ≤ lo ∧ lo < 2 ^ 62 ∧ -(2 ^ 62) ≤ hi ∧ hi < 2 ^ 62) ∧ R (Itr lo (hi - lo).toNat) H1
theorem pi_rng {l : Expr} {tl : TE} (hl : PE X l tl) : PI X tg l (iRngV tl) := by
  refine ⟨fun pins s σ H R I h => ?_⟩
  refine thn (hl.run pins s σ H _ I h) fun v s1 ⟨x, H1, I1, r1, q1⟩ => ?_
  obtain ⟨a, lo, hi, e, hr, ⟨b1, b2, b3, b4⟩, q⟩ := q1
  subst e
  cases r1
  obtain ⟨t, u, v, ho⟩ := I1.hok a _ hr
  refine wpAny_pyIter_range (show IsRange s1.heap a lo hi 1 t u v from ho) (small_one b1 b2 b3 b4) ?_
  refine ⟨s1.heap.objs.size, [s1.heap.objs.size], _, _, H1, rfl, I1.kept (t' := s1.toks) fun b o e => Heap.get?_push_of_some _ e, turn_range _ lo (hi - lo).toNat, ?_, fun b hb => ?_, q⟩
  · have e1 : lo + ((0 : Nat) : Int) * 1 = lo := by simp
    have e2 : (((hi - lo).toNat : Nat) : Int) - ((0 : Nat) : Int) = Builtin.Range.rangeSize lo hi 1 := by rw [rangeSize_one]; split <;> omega
    show IsRangeIter _ _ (lo + ((0 : Nat) : Int) * 1) ((((hi - lo).toNat : Nat) : Int) - ((0 : Nat) : Int)) 1
    rw [e1, e2]
    exact Heap.get?_push_size _ rfl
  · have e : b = s1.heap.objs.size := by simpa using hb
    subst e
    exact I1.fpOk (Nat.le_refl _) (I1.hok.fresh (Nat.le_refl _))
end
end Bw
/-! A def called by its parameters' names alone, in any order. -/
namespace Bw
open PySem PySem.Spec PyProof.Rows L2
theorem vals_at : ∀ {zs : List V} {ws : List Value}, Vals zs ws → ∀ i, RelV (zs.getD i .non) (ws.getD i .none)
  | _, _, .nil, i => by
    rw [List.getD_nil, List.getD_nil]
    rfl
  | _, _, .cons r t, 0 => r
  | _, _, .cons r t, i + 1 => by
    rw [List.getD_cons_succ, List.getD_cons_succ]
    exact vals_at t i
theorem vals_perm {zs : List V} {ws : List Value} (h : Vals zs ws) : ∀ π : List Nat, Vals (π.map fun i => zs.getD i .non) (π.map fun i => ws.getD i .none)
  | [] => .nil
  | i :: π => .cons (vals_at h i) (vals_perm h π)
section
variable {X : Cx} {k : Nat} {f : Addr} {fd : FuncData} {ps : List Str} {sp : Sp} {x : Str} {p pos : PySem.Pos} {kws : List Keyword} {tk : TA}
def tCallPm (sp : Sp) (π : List Nat) (n : Nat) (tk : TA) : TE := fun σ H Q => tk σ H fun zs H2 => zs.length = n ∧ sp (π.map fun i => zs.getD i .non) H2 Q E0
theorem pe_callPm (π : List Nat) (ks : List Str) (F : FnOk X.prog X.w X.K X.mg X.base CX0 k f fd ps sp) (hr : Room k X.A) (hg : Gl X x) (hm : X.mg x = some (.ref f)) (hk : PySem.W.keepIn X.K (.ref f) = true)
    (hb : ∀ (s : Shared) (ws : List Value), X.K.In s.heap → ws.length = ks.length → BindsTo s fd ⟨[], ks.zip ws⟩ (ps.zip (π.map fun i => ws.getD i .none))) (hkw : PK X kws tk)
    (hall : (backToKw pos (keywordEach kws X.env)).all (·.1.isSome) = true := by rfl) (hks : (backToKw pos (keywordEach kws X.env)).filterMap (·.1) = ks := by rfl)
    (hdb : (x == ("__debug__" : Str)) = false := by decide) (hpl : ((backTo pos (starEach [] X.env)).any (·.1) || (backToKw pos (keywordEach kws X.env)).any (·.1.isNone)) = false := by rfl) :
    PE X (.Call (.Name x p) [] kws pos) (tCallPm sp π ks.length tk) := by
  refine ⟨fun pins s σ H Q I h => wpAny_Call_Name_kw (ld_glob I hg hm ?_ hdb)⟩
  refine PySem.W.callWith_KW0 (h₀ := X.base) I.ok.mod.kin hk hall ?_ hpl
  refine thn (hkw.run pos pins s σ H _ I h) fun ws s1 ⟨zs, H1, I1, r1, zl, q1⟩ => ⟨I1.kIn, ?_⟩
  rw [hks]
  have wl : ws.length = ks.length := by rw [← r1.length]; exact zl
  refine wpAny_call (codeAny_mono (F.run X.A X.stack s1 H1 ⟨[], ks.zip ws⟩ (π.map fun i => ws.getD i .none) (π.map fun i => zs.getD i .non) Q E0 hr I1.env0 (hb s1 ws I1.kIn wl) (vals_perm r1 π) q1) fun r s' hq => ?_)
  match r, hq with
  | .error _, hq => exact False.elim hq
  | .ok (.ret _), hq => exact I1.after hq
  | .ok .next, hq => exact False.elim hq
  | .ok .brk, hq => exact False.elim hq
  | .ok .cont, hq => exact False.elim hq
end
end Bw
set_option exponentiation.threshold 10000
/-! What the law leaves over, beside the driving heights; small words of the law. -/
namespace Kx
open PySem PySem.Spec PyProof.Rows L2 Bw
theorem shown_frs {qs : List Rat} (h : ∀ q ∈ qs, Bq.Sz 1900 q) (hl : qs.length ≤ 6) : (rowD qs).showable = true ∧ (rowD qs).shown.length ≤ 40000 ∧ (rowD qs).depth ≤ 9 := by
  have h0 : ∀ d ∈ qs.map frD, d.showable = true ∧ d.shown.length ≤ 3849 ∧ d.depth ≤ 1 := fun d hd => by
    obtain ⟨q, hq, rfl⟩ := List.mem_map.mp hd
    exact fr_ok (h q hq)
  unfold rowD
  refine ⟨?_, ?_, ?_⟩
  · simp only [PyData.showable]
    exact showAll_of fun d hd => (h0 d hd).1
  · have := shown_tup_le (n := 3849) (m := 6) (ds := qs.map frD) (fun d hd => (h0 d hd).2.1) (by rw [List.length_map]; exact hl)
    omega
  · simp only [PyData.depth]
    have := depthAll_le (n := 1) (ds := qs.map frD) fun d hd => (h0 d hd).2.2
    omega
theorem keep3 (xa xb xc x : Nat) : keepB [xa, xb, xc] x = (decide (x = xa) || decide (x = xb) || decide (x = xc)) := by
  unfold keepB
  simp [Bool.or_assoc]
section
variable {k n top low here : Nat} {R : Nat → Nat → Rat}
/-- the first place's height is how far, by what is left over -/
theorem far_eq (bn : Bnds (k + 1) R) (n6 : k + 1 ≤ 6) (h1 : top < k + 1) (h2 : low < k + 1) (ne : top ≠ low) :
    1 / loQ (k + 1) (keepB [top, low]) R (k + 1) top low = hgt k top low R top ∧ hgt k low top R low = hgt k top low R top ∧ 0 < hgt k top low R top := by
  have t1 := two_left (bn_lo bn) h1 h2 ne (keep2 top low) (f := hgt k top low R) fun i hi n1 n2 => by
    rw [hgt_out bn n6 h2 hi n2, if_neg n1]
  have t2 := two_left (bn_lo bn) h1 h2 ne (keep2 top low) (f := hgt k low top R) fun i hi n1 n2 => by
    rw [hgt_out bn n6 h1 hi n1, if_neg n2]
  have e1 := t1.1
  have e2 := t2.2.1
  have p := t1.2.2
  have sy := lo_sym (n := k + 1) (keep := keepB [top, low]) bn.sy (k + 1) top low
  rw [hgt_out bn n6 h2 h1 ne, if_pos rfl, hgt_two] at e1
  rw [hgt_out bn n6 h1 h2 (fun z => ne z.symm), if_pos rfl, hgt_two, ← sy] at e2
  generalize loQ (k + 1) (keepB [top, low]) R (k + 1) top low = g at *
  generalize hgt k top low R top = x at *
  generalize hgt k low top R low = y at *
  have pg : g ≠ 0 := by grind
  refine ⟨by grind, ?_, ?_⟩
  · have : g * x = g * y := by grind
    have h3 : g * (x - y) = 0 := by grind
    rcases Rat.mul_eq_zero.mp h3 with z | z
    · exact absurd z pg
    · grind
  · have : x = 1 / g := by grind
    rw [this]
    exact div_pos (by decide) p
end
section
variable {P : Program} {w : World} {K : PySem.W.Frag} {mg : Str → Option Value} {base : Heap}
end
end Kx
set_option exponentiation.threshold 10000
/-! Apart is a distance; when two ways together are no longer than one. Plain mathematics. -/
namespace Kx
open PySem PySem.Spec PyProof.Rows L2 Bw
section
variable {k a b c : Nat} {R : Nat → Nat → Rat}
def dst (k : Nat) (R : Nat → Nat → Rat) (a b : Nat) : Rat := if a = b then 0 else hgt k a b R a
theorem dst_sym (bn : Bnds (k + 1) R) (n6 : k + 1 ≤ 6) (ha : a < k + 1) (hb : b < k + 1) : dst k R a b = dst k R b a := by
  unfold dst
  by_cases c : a = b
  · rw [if_pos c, if_pos c.symm]
  · rw [if_neg c, if_neg fun z => c z.symm, (far_eq bn n6 ha hb c).2.1]
theorem dst_pos (bn : Bnds (k + 1) R) (n6 : k + 1 ≤ 6) (ha : a < k + 1) (hb : b < k + 1) : 0 < dst k R a b ↔ a ≠ b := by
  unfold dst
  by_cases c : a = b
  · rw [if_pos c]
    exact ⟨fun z => absurd z (by decide), fun z => absurd c z⟩
  · rw [if_neg c]
    exact ⟨fun _ => c, fun _ => (far_eq bn n6 ha hb c).2.2⟩
theorem dst_sz (bn : Bnds (k + 1) R) (n6 : k + 1 ≤ 6) (hb : b < k + 1) (ha : a < k + 1) : Bq.Sz 510 (dst k R a b) := by
  unfold dst
  split
  · exact Bq.Sz.zero.mono (by decide)
  · exact hgt_sz bn n6 hb ha
/-- how far, by the law -/
theorem dst_far (bn : Bnds (k + 1) R) (n6 : k + 1 ≤ 6) (ha : a < k + 1) (hb : b < k + 1) : (if a = b then 0 else 1 / loQ (k + 1) (keepB [a, b]) R (k + 1) a b) = dst k R a b := by
  unfold dst
  by_cases c : a = b
  · rw [if_pos c, if_pos c]
  · rw [if_neg c, if_neg c, (far_eq bn n6 ha hb c).1]
theorem lo_ok6 (bn : Bnds (k + 1) R) (n6 : k + 1 ≤ 6) (ha : a < k + 1) (hb : b < k + 1) : LoOk (k + 1) R [a, b] := by
  have ka : keepB [a, b] a = true := by rw [keep2]; simp
  exact ⟨n6, bn_lo bn, fun x hx => by
    rcases List.mem_cons.mp hx with rfl | hx
    · exact ha
    · rw [List.mem_singleton.mp hx]
      exact hb, ⟨a, ha, ka⟩, fun g hg i j hi hj ri rj => lo_bd bn n6 ha ka hg hi hj ri rj⟩
end
end Kx
set_option exponentiation.threshold 10000
/-! Weights times how far, summed; steps there and back. Plain mathematics. -/
namespace Kx
open PySem PySem.Spec PyProof.Rows L2 Bw
theorem cs_nn {n : Nat} {R : Nat → Nat → Rat} {d : Nat → Rat} (nn : ∀ i j, 0 ≤ R i j) (i j : Nat) : 0 ≤ csQ R d d i j := by
  unfold csQ
  refine Rat.mul_nonneg (nn i j) ?_
  rcases Rat.le_total (a := 0) (b := d i - d j) with h | h
  · exact Rat.mul_nonneg h h
  · have : 0 ≤ -(d i - d j) := by grind
    have h2 := Rat.mul_nonneg this this
    grind
theorem cs_null {n : Nat} {R : Nat → Nat → Rat} {d : Nat → Rat} (bn : Bnds n R) (e : lS n (csQ R d d) = 0) {a : Nat} (ha : a < n) (da : d a = 0) : ∀ i, i < n → d i = 0 := by
  have nn : ∀ i j, 0 ≤ R i j := fun i j => (bn.wt i j).1
  have row := s1_null (n := n) (f := fun i => s1 i (csQ R d d i)) (fun i _ => s1_nonneg fun j _ => cs_nn (n := n) nn i j) e
  have low : ∀ i j, i < n → j < i → 0 < R i j → d i = d j := fun i j hi hj p => by
    have c := s1_null (n := i) (f := csQ R d d i) (fun j _ => cs_nn (n := n) nn i j) (row i hi) j hj
    unfold csQ at c
    rcases Rat.mul_eq_zero.mp c with z | z
    · grind
    · rcases Rat.mul_eq_zero.mp z with z | z <;> grind
  have tie : ∀ x y, (x < n ∧ y < n ∧ 0 < R x y) → d x = d y := fun x y ⟨hx, hy, p⟩ => by
    rcases Nat.lt_trichotomy x y with h | h | h
    · rw [bn.sy x y] at p
      exact (low y x hy h p).symm
    · rw [h]
    · exact low x y hx h p
  intro i hi
  exact reach_of (S := fun x => d x = 0) da (fun x y h e => by rw [← tie x y e]; exact h) (bn.con a i ha hi)
theorem out_lin (n : Nat) (R : Nat → Nat → Rat) (a b : Rat) (g h : Nat → Rat) (i : Nat) : outQ n R (fun x => a * g x + b * h x) i = a * outQ n R g i + b * outQ n R h i := by
  unfold outQ
  rw [← s1_mul a, ← s1_mul b, ← s1_add]
  exact s1_congr fun j _ => by grind
/-- heights that nothing goes out of are level -/
theorem out_level {n : Nat} {R : Nat → Nat → Rat} (bn : Bnds n R) {d : Nat → Rat} (h : ∀ i, i < n → outQ n R d i = 0) {a b : Nat} (ha : a < n) (hb : b < n) : d a = d b := by
  have e : ∀ i, i < n → outQ n R (fun x => d x - d b) i = 0 := fun i hi => by
    rw [← h i hi]
    unfold outQ
    exact s1_congr fun j _ => by grind
  have c : lS n (csQ R (fun x => d x - d b) fun x => d x - d b) = 0 := by
    rw [cost_out bn.sy, s1_congr (g := fun _ => 0) fun i hi => by rw [e i hi]; grind, s1_nil]
  have := cs_null (d := fun x => d x - d b) bn c hb (by grind) a ha
  grind
section
variable {k : Nat} {R : Nat → Nat → Rat}
/-- heights driven between a place and one laid low -/
def grn (k : Nat) (R : Nat → Nat → Rat) (z a x : Nat) : Rat := if a = z then 0 else hgt k a z R x
theorem s1_level (n : Nat) (R : Nat → Nat → Rat) (i : Nat) : outQ n R (fun _ => 0) i = 0 := by
  unfold outQ
  rw [s1_congr (g := fun _ => 0) fun j _ => by grind, s1_nil]
theorem out_ne2 (h : Bnds (k + 1) R) (n6 : k + 1 ≤ 6) {one two : Nat} (ht : two < k + 1) {i : Nat} (hi : i < k + 1) (ne : i ≠ two) : outQ (k + 1) R (hgt k one two R) i = if i = one then 1 else 0 := by
  have := hgt_out (one := one) h n6 ht hi ne
  rw [sS_s1] at this
  exact this
theorem out_sum {n : Nat} (sy : ∀ i j, R i j = R j i) (h : Nat → Rat) : s1 n (outQ n R h) = 0 := by
  have e1 := cost_out (n := n) sy (fun _ => 1) h
  have e2 : lS n (csQ R (fun _ => 1) h) = 0 := by
    unfold lS
    rw [s1_congr (g := fun _ => 0) fun i _ => by
      rw [s1_congr (g := fun _ => 0) fun j _ => by unfold csQ; grind, s1_nil], s1_nil]
  rw [e2] at e1
  rw [e1]
  exact s1_congr fun i _ => by grind
theorem out_two (h : Bnds (k + 1) R) (n6 : k + 1 ≤ 6) {one two : Nat} (h1 : one < k + 1) (ht : two < k + 1) (ne : one ≠ two) {i : Nat} (hi : i < k + 1) : outQ (k + 1) R (hgt k one two R) i = (if i = one then 1 else 0) - if i = two then 1 else 0 := by
  by_cases c : i = two
  · subst c
    rw [if_neg (fun z => ne z.symm), if_pos rfl]
    have e := out_sum (n := k + 1) h.sy (hgt k one i R)
    have e2 : s1 (k + 1) (outQ (k + 1) R (hgt k one i R)) = s1 (k + 1) (fun j => (if j = one then 1 else 0) + if j = i then outQ (k + 1) R (hgt k one i R) i else 0) := s1_congr fun j hj => by
      by_cases d : j = i
      · rw [d, if_neg (fun z => ne z.symm), if_pos rfl]
        grind
      · rw [out_ne2 h n6 ht hj d, if_neg d]
        grind
    rw [s1_add, s1_one, s1_one, if_pos h1, if_pos hi, e] at e2
    grind
  · rw [out_ne2 h n6 ht hi c, if_neg c]
    grind
theorem grn_out (h : Bnds (k + 1) R) (n6 : k + 1 ≤ 6) {z a i : Nat} (hz : z < k + 1) (ha : a < k + 1) (hi : i < k + 1) : outQ (k + 1) R (grn k R z a) i = (if i = a then 1 else 0) - if i = z then 1 else 0 := by
  unfold grn
  by_cases c : a = z
  · have e : (fun x => if a = z then (0 : Rat) else hgt k a z R x) = fun _ => 0 := funext fun x => if_pos c
    rw [e, s1_level, c]
    grind
  · have e : (fun x => if a = z then (0 : Rat) else hgt k a z R x) = hgt k a z R := funext fun x => if_neg c
    rw [e, out_two h n6 ha hz c hi]
/-- how far, by heights over one place laid low -/
theorem dst_grn (h : Bnds (k + 1) R) (n6 : k + 1 ≤ 6) {z a b : Nat} (hz : z < k + 1) (ha : a < k + 1) (hb : b < k + 1) : dst k R a b = (grn k R z a a - grn k R z a b) + (grn k R z b b - grn k R z b a) := by
  by_cases c : a = b
  · subst c
    unfold dst
    rw [if_pos rfl]
    grind
  · have lv := out_level h (d := fun x => 1 * hgt k a b R x + (-1) * (1 * grn k R z a x + (-1) * grn k R z b x)) (fun i hi => by
      rw [out_lin, out_two h n6 ha hb c hi, out_lin (k + 1) R 1 (-1) (grn k R z a), grn_out h n6 hz ha hi, grn_out h n6 hz hb hi]
      grind) ha hb
    unfold dst
    rw [if_neg c]
    rw [hgt_two] at lv
    grind
/-- Foster: weights times how far, each tie once, are one less than the places -/
theorem foster (h : Bnds (k + 1) R) (n6 : k + 1 ≤ 6) : lS (k + 1) (fun i j => R i j * dst k R i j) = (k : Nat) := by
  have z0 : 0 < k + 1 := by omega
  have e1 : lS (k + 1) (fun i j => R i j * dst k R i j) = lS (k + 1) (fun i j => R i j * (grn k R 0 i i - grn k R 0 i j)) + lS (k + 1) (fun i j => R j i * (grn k R 0 j j - grn k R 0 j i)) := by
    unfold lS
    rw [← s1_add]
    refine s1_congr fun i hi => ?_
    rw [← s1_add]
    refine s1_congr fun j hj => ?_
    dsimp only
    rw [dst_grn h n6 z0 hi (show j < k + 1 by omega), h.sy j i]
    grind
  have e2 := dS_split (fun i j => R i j * (grn k R 0 i i - grn k R 0 i j)) (k + 1)
  have e3 : (s1 (k + 1) fun i => R i i * (grn k R 0 i i - grn k R 0 i i)) = 0 := by
    rw [s1_congr (g := fun _ => 0) fun i _ => by grind, s1_nil]
  have e4 : lS (k + 1) (fun i j => R j i * (grn k R 0 j j - grn k R 0 j i)) = uS (k + 1) (fun i j => R i j * (grn k R 0 i i - grn k R 0 i j)) := by
    have : ∀ (f : Nat → Nat → Rat) (n : Nat), lS n (fun i j => f j i) = uS n f := fun f n => by
      induction n with
      | zero => rfl
      | succ n ih => rw [lS_succ, uS_succ, ih]
    exact this (fun i j => R i j * (grn k R 0 i i - grn k R 0 i j)) (k + 1)
  have e5 : dS (k + 1) (fun i j => R i j * (grn k R 0 i i - grn k R 0 i j)) = s1 (k + 1) fun i => 1 - if i = 0 then 1 else 0 := s1_congr fun i hi => by
    have := grn_out h n6 z0 hi hi
    rw [if_pos rfl] at this
    rw [← this]
    rfl
  have e6 : (s1 (k + 1) fun i : Nat => (1 : Rat) - if i = 0 then 1 else 0) = (k : Nat) := by
    have one : ∀ m : Nat, s1 m (fun _ => (1 : Rat)) = (m : Nat) := fun m => by
      induction m with
      | zero => rfl
      | succ m ih =>
        rw [s1_succ, ih, Rat.natCast_add]
        rfl
    have : (s1 (k + 1) fun i : Nat => (1 : Rat) - if i = 0 then 1 else 0) = s1 (k + 1) fun i : Nat => (1 : Rat) + (-1) * if i = 0 then 1 else 0 := s1_congr fun i _ => by grind
    rw [this, s1_add, one, s1_mul, s1_one, if_pos z0, Rat.natCast_add]
    grind
  rw [e3] at e2
  rw [e1, e4, ← e6, ← e5, e2]
  grind
/-- heights driven there and back tell the same -/
theorem grn_sym (h : Bnds (k + 1) R) (n6 : k + 1 ≤ 6) {z a b : Nat} (hz : z < k + 1) (ha : a < k + 1) (hb : b < k + 1) : grn k R z a b = grn k R z b a := by
  have at0 : ∀ c, grn k R z c z = 0 := fun c => by
    unfold grn
    split
    · rfl
    · exact hgt_two k c z R
  have one : ∀ {c d : Nat}, c < k + 1 → d < k + 1 → lS (k + 1) (csQ R (grn k R z c) (grn k R z d)) = grn k R z c d := fun {c d} hc hd => by
    rw [cost_out h.sy, s1_congr (g := fun i => (if i = d then grn k R z c d else 0) + (-1) * if i = z then grn k R z c z else 0) fun i hi => by
      rw [grn_out h n6 hz hd hi]
      by_cases e : i = d
      · rw [e, if_pos rfl, if_pos rfl]
        by_cases f : d = z
        · rw [if_pos f, if_pos f, f]
          grind
        · rw [if_neg f, if_neg f]
          grind
      · rw [if_neg e, if_neg e]
        by_cases f : i = z
        · rw [if_pos f, if_pos f, f]
          grind
        · rw [if_neg f, if_neg f]
          grind, s1_add, s1_one, if_pos hd, s1_mul, s1_one, if_pos hz, at0]
    grind
  rw [← one ha hb, ← one hb ha]
  exact lS_congr fun i j _ _ => by
    unfold csQ
    grind
/-- the heights of a third place, each laid low once, are how far -/
theorem grn_both (h : Bnds (k + 1) R) (n6 : k + 1 ≤ 6) {a b x : Nat} (ha : a < k + 1) (hb : b < k + 1) (hx : x < k + 1) (ne : a ≠ b) : grn k R b x a + grn k R a x b = dst k R a b := by
  rw [grn_sym h n6 hb hx ha, grn_sym h n6 ha hx hb]
  have lv := out_level h (d := fun y => 1 * hgt k a b R y + 1 * hgt k b a R y) (fun i hi => by
    rw [out_lin, out_two h n6 ha hb ne hi, out_two h n6 hb ha (fun z => ne z.symm) hi]
    grind) hx ha
  unfold dst grn
  rw [if_neg ne, if_neg fun z => ne z.symm, if_neg ne]
  rw [hgt_two k b a R] at lv
  grind
end
end Kx
set_option exponentiation.threshold 10000
/-! Steps from one place to another, by what is left over of a walk. Plain mathematics. -/
namespace Kx
open PySem PySem.Spec PyProof.Rows L2 Bw
/-- the walk of drawn weights -/
def wkQ (n : Nat) (R : Nat → Nat → Rat) : Nat → Nat → Rat := fun i j => chQ n (mf (scM n R)) i j
section
variable {n : Nat} {R : Nat → Nat → Rat}
theorem wk_tab (bn : Bnds n R) (n1 : 1 ≤ n) (n6 : n ≤ 6) : walkM (scM n R) = tabF n (wkQ n R) := (sc_wk bn n1 n6).tab
theorem wk_lo (bn : Bnds n R) : LoI n (fun _ => true) (wkQ n R) := by
  refine ⟨fun i j hi hj _ _ => ?_, fun a b ha hb _ _ => (bn.con a b ha hb).mono fun x y e => ⟨⟨e.1, rfl⟩, ⟨e.2.1, rfl⟩, ?_⟩⟩
  · show 0 ≤ chQ n (mf (scM n R)) i j
    rw [sc_ch bn hi hj]
    exact div_nonneg (bn.wt i j).1 (row_posR bn hi)
  · show 0 < chQ n (mf (scM n R)) x y
    rw [sc_ch bn e.1 e.2.1]
    exact div_pos e.2.2 (row_posR bn e.1)
end
/-- what a place's ties weigh together -/
def rwS (n : Nat) (R : Nat → Nat → Rat) (i : Nat) : Rat := s1 n (R i)
theorem rw_pos {n : Nat} {R : Nat → Nat → Rat} (bn : Bnds n R) {i : Nat} (hi : i < n) : 0 < rwS n R i := row_posR bn hi
theorem wk_at {n : Nat} {R : Nat → Nat → Rat} (bn : Bnds n R) {i j : Nat} (hi : i < n) (hj : j < n) : wkQ n R i j = R i j / rwS n R i := sc_ch bn hi hj
theorem sS_mul (c : Rat) (p : Nat → Bool) (h : Nat → Rat) (n : Nat) : sS n p (fun j => c * h j) = c * sS n p h := by
  have := sS_lin p c 0 h (fun _ => 0) n
  rw [sS_congr (k := fun j => c * h j) (fun _ _ => rfl) fun j _ _ => by grind] at this
  rw [this]
  grind
/-- what is left of a walk: what is left of the weights, over the rows' sums -/
theorem lo_wk {n : Nat} {R : Nat → Nat → Rat} {keep : Nat → Bool} (bn : Bnds n R) {k : Nat} (hk : k < n) (kk : keep k = true) : ∀ g, g ≤ n → ∀ i j, i < n → j < n → loQ n keep (wkQ n R) g i j = loQ n keep R g i j / rwS n R i
  | 0, _, i, j, hi, hj => wk_at bn hi hj
  | g + 1, hg, i, j, hi, hj => by
    have ih := lo_wk bn hk kk g (by omega)
    by_cases c : keep g = true
    · rw [lo_succ_keep c, lo_succ_keep c]
      exact ih i j hi hj
    · have w := lo_whole (bn_lo bn) hk kk (show g < n by omega) c
      have e : sS n (remB keep (g + 1)) (loQ n keep (wkQ n R) g g) = (1 / rwS n R g) * sS n (remB keep (g + 1)) (loQ n keep R g g) := by
        rw [← sS_mul]
        exact sS_congr (fun _ _ => rfl) fun y hy _ => by
          rw [ih g y (by omega) hy]
          grind
      rw [lo_succ_out c, lo_succ_out c, e]
      unfold elQ
      rw [ih i j hi hj, ih i g hi (by omega), ih g j (by omega) hj]
      have si := rw_pos bn hi
      have sg := rw_pos bn (show g < n by omega)
      generalize sS n (remB keep (g + 1)) (loQ n keep R g g) = w0 at *
      generalize rwS n R i = a at *
      generalize rwS n R g = b at *
      have a0 : a ≠ 0 := by grind
      have b0 : b ≠ 0 := by grind
      have w1 : w0 ≠ 0 := by grind
      grind
/-- what it costs to leave places out, each a step at first -/
def coQ (n : Nat) (keep : Nat → Bool) (F : Nat → Nat → Rat) : Nat → Nat → Rat
  | 0 => fun _ => 1
  | g + 1 => if keep g = true then coQ n keep F g else fun i => coQ n keep F g i + loQ n keep F g i g / sS n (remB keep (g + 1)) (loQ n keep F g g) * coQ n keep F g g
theorem el_cost {n g i : Nat} {p q : Nat → Bool} {L : Nat → Nat → Rat} {f : Nat → Rat} (hg : g < n) (qg : q g = false) (hq : ∀ j, p j = (q j || decide (j = g))) (w : sS n q (L g) ≠ 0) :
    sS n q (fun j => elQ (sS n q (L g)) g L i j * (f i - f j)) = sS n p (fun j => L i j * (f i - f j)) + L i g / sS n q (L g) * sS n p (fun j => L g j * (f g - f j)) := by
  rw [sS_split qg hq _ n, sS_split qg hq _ n, if_pos hg, if_pos hg]
  have e1 : sS n q (fun j => elQ (sS n q (L g)) g L i j * (f i - f j)) = sS n q (fun j => 1 * (L i j * (f i - f j)) + (L i g / sS n q (L g)) * (L g j * (f i - f j))) := sS_congr (fun _ _ => rfl) fun j _ _ => by
    unfold elQ
    generalize sS n q (L g) = w0
    grind
  have e2 : sS n q (fun j => L g j * (f i - f j)) = sS n q (fun j => 1 * (L g j * (f g - f j)) + (f i - f g) * L g j) := sS_congr (fun _ _ => rfl) fun j _ _ => by grind
  rw [sS_lin] at e1 e2
  have e3 : (sS n q fun j => L g j) = sS n q (L g) := rfl
  rw [e3] at e2
  rw [e1, e2]
  generalize sS n q (L g) = w0 at *
  generalize (sS n q fun j => L g j * (f g - f j)) = z at *
  generalize (sS n q fun j => L i j * (f i - f j)) = y
  grind
theorem co_rel {n z : Nat} {keep : Nat → Bool} {F : Nat → Nat → Rat} (h0 : LoI n (fun _ => true) F) (hz : z < n) (kz : keep z = true) {m : Nat → Rat} (hm : ∀ i, i < n → i ≠ z → sS n (fun _ => true) (fun j => F i j * (m i - m j)) = 1) :
    ∀ g, g ≤ n → ∀ i, i < n → remB keep g i = true → i ≠ z → sS n (remB keep g) (fun j => loQ n keep F g i j * (m i - m j)) = coQ n keep F g i
  | 0, _, i, hi, _, ne => by
    show _ = (1 : Rat)
    rw [← hm i hi ne]
    exact sS_congr (fun j _ => by unfold remB; simp) fun _ _ _ => rfl
  | g + 1, hg, i, hi, hr, ne => by
    have ih := co_rel h0 hz kz hm g (by omega)
    by_cases c : keep g = true
    · rw [lo_succ_keep c, coQ, if_pos c, ← ih i hi (by rw [← rem_keep c]; exact hr) ne]
      exact sS_congr (fun j _ => rem_keep c j) fun _ _ _ => rfl
    · have w := lo_whole h0 hz kz (show g < n by omega) c
      rw [lo_succ_out c, el_cost (by omega) (rem_out c) (rem_split c) (by grind), ih i hi (rem_up hr) ne, ih g (by omega) (rem_self keep g) fun y => c (by rw [y]; exact kz), coQ, if_neg c]
section
variable {k : Nat} {R : Nat → Nat → Rat}
/-- steps to a place, from each -/
def stpM (k : Nat) (R : Nat → Nat → Rat) (z x : Nat) : Rat := s1 (k + 1) fun a => rwS (k + 1) R a * grn k R z a x
theorem stp_low (z : Nat) : stpM k R z z = 0 := by
  unfold stpM
  rw [s1_congr (g := fun _ => 0) fun a _ => by
    unfold grn
    split
    · grind
    · rw [hgt_two]
      grind, s1_nil]
theorem stp_out (bn : Bnds (k + 1) R) (n6 : k + 1 ≤ 6) {z i : Nat} (hz : z < k + 1) (hi : i < k + 1) : outQ (k + 1) R (stpM k R z) i = rwS (k + 1) R i - if i = z then s1 (k + 1) (rwS (k + 1) R) else 0 := by
  have e1 : outQ (k + 1) R (stpM k R z) i = s1 (k + 1) fun a => rwS (k + 1) R a * outQ (k + 1) R (grn k R z a) i := by
    have e : outQ (k + 1) R (stpM k R z) i = s1 (k + 1) fun j => s1 (k + 1) fun a => rwS (k + 1) R a * (R i j * (grn k R z a i - grn k R z a j)) := s1_congr fun j _ => by
      show R i j * (s1 (k + 1) (fun a => rwS (k + 1) R a * grn k R z a i) - s1 (k + 1) fun a => rwS (k + 1) R a * grn k R z a j) = _
      have h : s1 (k + 1) (fun a => rwS (k + 1) R a * (R i j * (grn k R z a i - grn k R z a j))) = s1 (k + 1) fun a => R i j * (rwS (k + 1) R a * grn k R z a i) + (- R i j) * (rwS (k + 1) R a * grn k R z a j) := s1_congr fun a _ => by grind
      rw [h, s1_add, s1_mul, s1_mul]
      grind
    rw [e, s1_swap]
    exact s1_congr fun a _ => s1_mul _ _ _
  rw [e1, s1_congr (g := fun a => (if a = i then rwS (k + 1) R i else 0) + (- if i = z then 1 else 0) * rwS (k + 1) R a) fun a ha => by
    rw [grn_out bn n6 hz ha hi]
    by_cases c : a = i
    · rw [c, if_pos rfl, if_pos rfl]
      grind
    · rw [if_neg c, if_neg fun z => c z.symm]
      grind, s1_add, s1_one, if_pos hi, s1_mul]
  have e2 : (s1 (k + 1) fun a => rwS (k + 1) R a) = s1 (k + 1) (rwS (k + 1) R) := rfl
  rw [e2]
  split <;> grind
theorem stp_wk (bn : Bnds (k + 1) R) (n6 : k + 1 ≤ 6) {z i : Nat} (hz : z < k + 1) (hi : i < k + 1) (ne : i ≠ z) : sS (k + 1) (fun _ => true) (fun j => wkQ (k + 1) R i j * (stpM k R z i - stpM k R z j)) = 1 := by
  have e := stp_out bn n6 hz hi
  have s0 := rw_pos bn hi
  rw [if_neg ne] at e
  rw [sS_s1, s1_congr (g := fun j => (1 / rwS (k + 1) R i) * (R i j * (stpM k R z i - stpM k R z j))) fun j hj => by
    rw [wk_at bn hi hj]
    grind, s1_mul]
  have e2 : (s1 (k + 1) fun j => R i j * (stpM k R z i - stpM k R z j)) = outQ (k + 1) R (stpM k R z) i := rfl
  rw [e2, e]
  generalize rwS (k + 1) R i = a at *
  have : a ≠ 0 := by grind
  grind
/-- steps to a place, by what is left over of two -/
theorem stp_left (bn : Bnds (k + 1) R) (n6 : k + 1 ≤ 6) {top low : Nat} (h1 : top < k + 1) (h2 : low < k + 1) (ne : top ≠ low) :
    0 < loQ (k + 1) (keepB [top, low]) (wkQ (k + 1) R) (k + 1) top low ∧ coQ (k + 1) (keepB [top, low]) (wkQ (k + 1) R) (k + 1) top / loQ (k + 1) (keepB [top, low]) (wkQ (k + 1) R) (k + 1) top low = stpM k R low top := by
  have ka : keepB [top, low] top = true := by rw [keep2]; simp
  have kb : keepB [top, low] low = true := by rw [keep2]; simp
  have r := co_rel (wk_lo bn) h2 kb (m := stpM k R low) (fun i hi ne => stp_wk bn n6 h2 hi ne) (k + 1) (Nat.le_refl _) top h1 (by rw [rem_end h1]; exact ka) ne
  rw [sS_congr (q := fun x => decide (x = top) || decide (x = low)) (fun j hj => by rw [rem_end hj, keep2]) fun _ _ _ => rfl, sS_two h1 h2 ne, stp_low] at r
  have p := lo_wk (keep := keepB [top, low]) bn h1 ka (k + 1) (Nat.le_refl _) top low h1 h2
  have t := far_eq bn n6 h1 h2 ne
  have sp := rw_pos bn h1
  have lp : 0 < loQ (k + 1) (keepB [top, low]) R (k + 1) top low := by
    have h := t.2.2
    rw [← t.1] at h
    generalize loQ (k + 1) (keepB [top, low]) R (k + 1) top low = x at *
    by_cases z : 0 < x
    · exact z
    · exfalso
      by_cases y : x = 0
      · rw [y] at h
        have : (1 : Rat) / 0 = 0 := by grind
        rw [this] at h
        exact absurd h (by decide)
      · have n1 : 0 < -x := by grind
        have := div_pos (show (0 : Rat) < 1 by decide) n1
        grind
  have lp2 : 0 < loQ (k + 1) (keepB [top, low]) (wkQ (k + 1) R) (k + 1) top low := by
    rw [p]
    exact div_pos lp sp
  refine ⟨lp2, ?_⟩
  generalize loQ (k + 1) (keepB [top, low]) (wkQ (k + 1) R) (k + 1) top low = x at *
  have : x ≠ 0 := by grind
  rw [← r]
  grind
/-- there and back -/
theorem stp_both (bn : Bnds (k + 1) R) (n6 : k + 1 ≤ 6) {top low : Nat} (h1 : top < k + 1) (h2 : low < k + 1) (ne : top ≠ low) : stpM k R low top + stpM k R top low = s1 (k + 1) (rwS (k + 1) R) * dst k R top low := by
  unfold stpM
  rw [← s1_add, Rat.mul_comm, ← s1_mul]
  refine s1_congr fun a ha => ?_
  rw [← grn_both bn n6 h1 h2 ha ne]
  grind
theorem sS_of (n : Nat) (p : Nat → Bool) (h : Nat → Rat) : sS n p h = s1 n fun i => if p i = true then h i else 0 := by
  induction n with
  | zero => rfl
  | succ n ih => rw [sS_succ, s1_succ, ih]
theorem rw_sz {n : Nat} (bn : Bnds n R) (n6 : n ≤ 6) (i : Nat) : Bq.Sz 127 (rwS n R i) := by
  have := sS_sz (s := 20) (p := fun _ => true) (h := R i) (n := n) fun j _ _ => wt_sz (bn.wt i j)
  rw [sS_s1, List.filter_eq_self.mpr fun _ _ => rfl, List.length_range] at this
  exact this.mono (by omega)
/-- what it costs stays short -/
theorem co_sz (bn : Bnds (k + 1) R) (n6 : k + 1 ≤ 6) {keep : Nat → Bool} {z i g : Nat} (hz : z < k + 1) (kz : keep z = true) (hg : g ≤ k + 1) (hi : i < k + 1) (ri : remB keep g i = true) (ne : i ≠ z) : Bq.Sz 790 (coQ (k + 1) keep (wkQ (k + 1) R) g i) := by
  have r := co_rel (wk_lo bn) hz kz (m := stpM k R z) (fun i hi ne => stp_wk bn n6 hz hi ne) g hg i hi ri ne
  obtain ⟨P, P0, P1, hP⟩ := wcd bn n6
  obtain ⟨D, f, D0, D1, ft, fn, fh, fc⟩ := hx (S := remB keep g) bn n6 hi ri
  have rz : remB keep g z = true := by
    unfold remB
    rw [kz]
    rfl
  have fz := fn z hz rz (fun y => ne y.symm)
  have lp := lo_wk (keep := keep) bn hz kz g hg
  have si := rw_pos bn hi
  have sy := lo_sym (n := k + 1) (keep := keep) bn.sy g
  have a1 : s1 (k + 1) (fun x => f x * rwS (k + 1) R x) = s1 (k + 1) fun x => stpM k R z x * outQ (k + 1) R f x := by
    rw [← cost_out bn.sy (stpM k R z) f]
    have e : lS (k + 1) (csQ R (stpM k R z) f) = lS (k + 1) (csQ R f (stpM k R z)) := lS_congr fun a b _ _ => by
      unfold csQ
      grind
    rw [e, cost_out bn.sy f (stpM k R z)]
    refine s1_congr fun x hx => ?_
    rw [stp_out bn n6 hz hx]
    by_cases c : x = z
    · rw [c, fz]
      grind
    · rw [if_neg c]
      grind
  have a2 : (s1 (k + 1) fun x => stpM k R z x * outQ (k + 1) R f x) = sS (k + 1) (remB keep g) fun x => stpM k R z x * outQ (k + 1) R f x := by
    rw [sS_of]
    refine s1_congr fun x hx => ?_
    by_cases c : remB keep g x = true
    · rw [if_pos c]
    · rw [if_neg c]
      have : outQ (k + 1) R f x = 0 := fh x hx c
      rw [this]
      grind
  have har := lo_harm2 (bn_lo bn) hz kz (f := f) g hg fun x hx nx => by
    rw [sS_s1]
    refine fh x (by omega) fun y => ?_
    unfold remB at y
    rw [Bool.or_eq_true, decide_eq_true_eq] at y
    rcases y with y | y
    · exact nx y
    · omega
  have a3 : ∀ x, x < k + 1 → remB keep g x = true → outQ (k + 1) R f x = (if x = i then sS (k + 1) (remB keep g) (loQ (k + 1) keep R g i) else 0) - loQ (k + 1) keep R g i x := fun x hx rx => by
    have h := har x hx rx
    rw [sS_s1] at h
    have h' : sS (k + 1) (remB keep g) (fun j => loQ (k + 1) keep R g x j * (f x - f j)) = outQ (k + 1) R f x := h
    rw [← h']
    by_cases c : x = i
    · subst c
      rw [if_pos rfl]
      have e1 : sS (k + 1) (remB keep g) (fun j => loQ (k + 1) keep R g x j * (f x - f j)) = sS (k + 1) (remB keep g) (fun j => 1 * loQ (k + 1) keep R g x j + (-1) * (if j = x then loQ (k + 1) keep R g x x else 0)) := sS_congr (fun _ _ => rfl) fun j hj pj => by
        by_cases d : j = x
        · rw [d, if_pos rfl]
          grind
        · rw [if_neg d, ft, fn j hj pj d]
          grind
      rw [e1, sS_lin, sS_pick, if_pos ⟨hx, rx⟩]
      have e3 : (sS (k + 1) (remB keep g) fun j => loQ (k + 1) keep R g x j) = sS (k + 1) (remB keep g) (loQ (k + 1) keep R g x) := rfl
      rw [e3]
      grind
    · rw [if_neg c, sy i x]
      have e1 : sS (k + 1) (remB keep g) (fun j => loQ (k + 1) keep R g x j * (f x - f j)) = sS (k + 1) (remB keep g) (fun j => if j = i then - loQ (k + 1) keep R g x i else 0) := sS_congr (fun _ _ => rfl) fun j hj pj => by
        by_cases d : j = i
        · rw [d, if_pos rfl, ft, fn x hx rx c]
          grind
        · rw [if_neg d, fn j hj pj d, fn x hx rx c]
          grind
      rw [e1, sS_pick, if_pos ⟨hi, ri⟩]
      grind
  have a4 : (sS (k + 1) (remB keep g) fun x => stpM k R z x * outQ (k + 1) R f x) = rwS (k + 1) R i * coQ (k + 1) keep (wkQ (k + 1) R) g i := by
    rw [← r, ← sS_mul]
    have e1 : (sS (k + 1) (remB keep g) fun x => stpM k R z x * outQ (k + 1) R f x) = sS (k + 1) (remB keep g) fun x => 1 * (if x = i then stpM k R z i * sS (k + 1) (remB keep g) (loQ (k + 1) keep R g i) else 0) + (-1) * (stpM k R z x * loQ (k + 1) keep R g i x) := sS_congr (fun _ _ => rfl) fun x hx rx => by
      rw [a3 x hx rx]
      by_cases c : x = i
      · rw [c, if_pos rfl, if_pos rfl]
        grind
      · rw [if_neg c, if_neg c]
        grind
    have e2 : (sS (k + 1) (remB keep g) fun j => rwS (k + 1) R i * (loQ (k + 1) keep (wkQ (k + 1) R) g i j * (stpM k R z i - stpM k R z j))) = sS (k + 1) (remB keep g) fun j => stpM k R z i * loQ (k + 1) keep R g i j + (-1) * (stpM k R z j * loQ (k + 1) keep R g i j) := sS_congr (fun _ _ => rfl) fun j hj _ => by
      rw [lp i j hi hj]
      generalize rwS (k + 1) R i = a at *
      have : a ≠ 0 := by grind
      grind
    rw [e1, e2, sS_lin, sS_lin, sS_pick, if_pos ⟨hi, ri⟩]
    have e3 : (sS (k + 1) (remB keep g) fun j => loQ (k + 1) keep R g i j) = sS (k + 1) (remB keep g) (loQ (k + 1) keep R g i) := rfl
    rw [e3]
    grind
  have tot : s1 (k + 1) (fun x => f x * rwS (k + 1) R x) = rwS (k + 1) R i * coQ (k + 1) keep (wkQ (k + 1) R) g i := by rw [a1, a2, a4]
  have row : ∀ x, x < k + 1 → Cd P (6 * (2 ^ 20 * P)) (rwS (k + 1) R x) := fun x hx => by
    have := cd_sum (D := P) (N := 2 ^ 20 * P) (l := (List.range (k + 1)).map (R x)) fun q hq => by
      obtain ⟨y, hy, rfl⟩ := List.mem_map.mp hq
      exact hP x y hx (List.mem_range.mp hy)
    rw [List.length_map, List.length_range] at this
    exact this.mono (Nat.mul_le_mul_right _ n6)
  have big : Bq.Sz 660 (s1 (k + 1) fun x => f x * rwS (k + 1) R x) := by
    have c := cd_sum (D := D * P) (N := 2 ^ 384 * (6 * (2 ^ 20 * P))) (l := (List.range (k + 1)).map fun x => f x * rwS (k + 1) R x) fun q hq => by
      obtain ⟨x, hx, rfl⟩ := List.mem_map.mp hq
      exact (fc x (List.mem_range.mp hx)).mul (row x (List.mem_range.mp hx))
    rw [List.length_map, List.length_range] at c
    refine c.sz (Nat.mul_pos D0 P0) (Nat.lt_of_le_of_lt (Nat.mul_le_mul D1 P1) (by decide +kernel)) ?_
    exact Nat.lt_of_le_of_lt (Nat.mul_le_mul n6 (Nat.mul_le_mul_left _ (Nat.mul_le_mul_left _ (Nat.mul_le_mul_left _ P1)))) (by decide +kernel)
  rw [tot] at big
  have fin := big.div (rw_sz bn n6 i) (Bq.num_pos.mpr si)
  have e : rwS (k + 1) R i * coQ (k + 1) keep (wkQ (k + 1) R) g i / rwS (k + 1) R i = coQ (k + 1) keep (wkQ (k + 1) R) g i := by
    generalize rwS (k + 1) R i = a at *
    have : a ≠ 0 := by grind
    grind
  rw [e] at fin
  exact fin.mono (by decide)
/-- what is left of a walk stays short -/
theorem wk_bd (bn : Bnds (k + 1) R) (n6 : k + 1 ≤ 6) {keep : Nat → Bool} {z i j g : Nat} (hz : z < k + 1) (kz : keep z = true) (hg : g ≤ k + 1) (hi : i < k + 1) (hj : j < k + 1) (ri : remB keep g i = true) (rj : remB keep g j = true) : Bq.Sz 790 (loQ (k + 1) keep (wkQ (k + 1) R) g i j) := by
  rw [lo_wk bn hz kz g hg i j hi hj]
  exact ((lo_bd bn n6 hz kz hg hi hj ri rj).div (rw_sz bn n6 i) (Bq.num_pos.mpr (rw_pos bn hi))).mono (by decide)
end
end Kx
set_option exponentiation.threshold 10000
/-! The law: steps from one place to another. -/
namespace Kx
open PySem PySem.Spec PyProof.Rows L2 Bw
abbrev s_law_mean_steps : Stmt := topS 58
abbrev n_law_mean_steps : List Str := ["going", "top", "low", "many", "rows", "cost", "row", "gone", "here_on", "at", "goes", "here", "part", "there"]
theorem c_law_mean_steps : FnScope n_law_mean_steps ["going", "top", "low"] (defScope s_law_mean_steps) :=
  ⟨rfl, rfl, rfl, by decide +kernel, rfl, by decide +kernel, by decide +kernel⟩

/-- a list of numbers beside the rows -/
structure CsL (H0 H : Hp) (C : Addr) (n : Nat) (c : Nat → Rat) : Prop where
  c0 : H0 C = none
  ls : ∃ cs, H C = some (.lst cs) ∧ cs.length = n ∧ ∀ (i : Nat) v, cs[i]? = some v → FrA H v (c i)
theorem CsL.grow {H0 H H' : Hp} {C : Addr} {n : Nat} {c : Nat → Rat} (h : CsL H0 H C n c) (s : Same H H') : CsL H0 H' C n c := by
  obtain ⟨cs, e1, e2, e3⟩ := h.ls
  exact ⟨h.c0, cs, s _ _ e1, e2, fun i v e => (e3 i v e).same s⟩
theorem CsL.frame {H0 H : Hp} {C m : Addr} {n : Nat} {c : Nat → Rat} {o : HO} (h : CsL H0 H C n c) (ne : m ≠ C) (hm : ∀ xs, H m ≠ some (.tup xs)) : CsL H0 (upd H m o) C n c := by
  obtain ⟨cs, e1, e2, e3⟩ := h.ls
  exact ⟨h.c0, cs, by rw [upd_ne (fun z => ne z.symm)]; exact e1, e2, fun i v e => (e3 i v e).frame hm⟩
theorem CsL.set {H0 H : Hp} {C : Addr} {n j : Nat} {c : Nat → Rat} (h : CsL H0 H C n c) {cs : List V} {v : V} {q : Rat} (e : H C = some (.lst cs)) (f : FrA H v q) : CsL H0 (upd H C (.lst (cs.set j v))) C n fun i => if i = j then q else c i := by
  obtain ⟨cs', e1, e2, e3⟩ := h.ls
  rw [e] at e1
  obtain rfl : cs = cs' := by
    have := Option.some.inj e1
    cases this
    rfl
  have nt : ∀ xs, H C ≠ some (.tup xs) := fun xs => by
    rw [e]
    exact fun z => nomatch z
  refine ⟨h.c0, cs.set j v, upd_same, by rw [List.length_set]; exact e2, fun i u ev => ?_⟩
  by_cases d : i = j
  · subst d
    have hl := (List.getElem?_eq_some_iff.mp ev).1
    rw [List.length_set] at hl
    rw [List.getElem?_set_self hl] at ev
    obtain rfl := Option.some.inj ev
    show FrA _ _ (if i = i then q else c i)
    rw [if_pos rfl]
    exact f.frame nt
  · rw [List.getElem?_set_ne (fun z => d z.symm)] at ev
    show FrA _ _ (if i = j then q else c i)
    rw [if_neg d]
    exact (e3 i u ev).frame nt
theorem CsL.at {H0 H : Hp} {C : Addr} {n : Nat} {c : Nat → Rat} (h : CsL H0 H C n c) {i : Nat} (hi : i < n) : ∃ cs v, H C = some (.lst cs) ∧ cs.length = n ∧ cs[i]? = some v ∧ FrA H v (c i) := by
  obtain ⟨cs, e1, e2, e3⟩ := h.ls
  have e : cs[i]? = some (cs[i]'(by omega)) := List.getElem?_eq_getElem (by omega)
  exact ⟨cs, _, e1, e2, e, e3 i _ e⟩
section
variable {P : Program} {w : World} {K : PySem.W.Frag} {mg : Str → Option Value} {base : Heap}
def spMean (K : PySem.W.Frag) : Sp := fun vs H Q _ => ∃ (W : Addr → Prop) (v : V) (k : Nat) (R : Nat → Nat → Rat) (xa xb : Nat), vs = [v, .int (xa : Nat), .int (xb : Nat)] ∧ Dq W H v (tabD (tabF (k + 1) (wkQ (k + 1) R))) ∧ k + 1 ≤ 6 ∧ Bnds (k + 1) R ∧ xa < k + 1 ∧ xb < k + 1 ∧ xa ≠ xb ∧
  ∀ v' H', Same H H' → FrA H' v' (stpM k R xb xa) → Bq.Sz 1580 (stpM k R xb xa) → Q v' H'
theorem ok_lmean {f : Addr} {fd : FuncData} (F : Fun K "_law_mean_steps" "_law_mean_steps" s_law_mean_steps f fd) (M : Mb mg) (Dlaw_total : Df P w K mg base 3 "_law_total" ["parts"] (spSum K (SqL K))) (Dlaw_over : Df P w K mg base 2 "_law_over" ["here", "there"] (spOver K))
    (Dlaw_times : Df P w K mg base 2 "_law_times" ["here", "there"] (spTimes K)) (Dlaw_plus : Df P w K mg base 2 "_law_plus" ["here", "there"] (spPlus K)) :
    FnOk P w K mg base CX0 4 f fd ["going", "top", "low"] (spMean K) := by
  refine F.ok c_law_mean_steps (fun vs H Q E h => ?_) (fun cdv A outer s H vs Q E hr h => ?_)
  · obtain ⟨_, v, k, R, xa, xb, rfl, _⟩ := h
    rfl
  · obtain ⟨W, v, k, R, xa, xb, rfl, hd, n6, bn, ha, hb, ne, q⟩ := h
    refine ⟨_, (pss_cons (ps_asg (pe_tup (pa_cons (pe_callB call_len_seq (by rfl) M.len (by decide +kernel) (pa_cons (pv 0) pa_nil)) (pa_cons (pe_lc (own := [("row", 6)]) rfl c_law_mean_steps.nd (pi_tup (pv 0)) (blkOk_by (own := [("row", 6)]) (N := n_law_mean_steps) (sc := defScope s_law_mean_steps) (by decide +kernel)) (fun _ _ _ _ _ => (pg_name (i := 6) c_law_mean_steps.nd rfl (.inl rfl))) (fun _ _ _ _ _ => pts_nil) (fun _ _ _ _ _ => (pe_callTy (call_lstK (K := K) rfl) (by rfl) M.list (by decide +kernel) (pa_cons (pv 6) pa_nil)))) (pa_cons (pe_op op_rep (pe_lst (pa_cons (pe_tup (pa_cons pe_int (pa_cons pe_int pa_nil))) pa_nil)) (pe_callB call_len_seq (by rfl) M.len (by decide +kernel) (pa_cons (pv 0) pa_nil))) pa_nil)))) (pg_tup rfl (pgs_cons (pg_name (i := 3) c_law_mean_steps.nd rfl (.inl rfl)) (pgs_cons (pg_name (i := 4) c_law_mean_steps.nd rfl (.inr rfl)) (pgs_cons (pg_name (i := 5) c_law_mean_steps.nd rfl (.inl rfl)) pgs_nil)))))
 (pss_cons (ps_for PassesOwn.never rfl (pi_range1 (by rfl) M.range (pa_cons (pv 3) pa_nil)) (pg_name (i := 7) c_law_mean_steps.nd rfl (.inr rfl))
 (pss_one (ps_if (PW.pt (pw_and (pt_cmpR op_ne (pv 7) (pv 1) (nomark _)) (pw_and1 (pt_cmpR op_ne (pv 7) (pv 2) (nomark _)))))
 (pss_cons (ps_setLc (i := 8) (own := [("at", 9)]) rfl c_law_mean_steps.nd rfl rfl (sw_true rfl rfl rfl (by decide +kernel)) (pi_range1 (by rfl) M.range (pa_cons (pv 3) pa_nil)) (blkOk_by (own := [("at", 9)]) (N := n_law_mean_steps) (sc := defScope s_law_mean_steps) (by decide +kernel)) (fun _ _ _ _ _ => (pg_name (i := 9) c_law_mean_steps.nd rfl (.inl rfl))) (fun _ _ _ _ _ => (pts_one (PW.pt (pw_or (pt_cmpR op_eq (pv 9) (pv 1) (nomark _)) (pw_or (pt_cmpR op_eq (pv 9) (pv 2) (nomark _)) (pw_or1 (pt_cmpR op_gt (pv 9) (pv 7) (nomark _)))))))) (fun _ _ _ _ _ => (pv 9)))
 (pss_cons (ps_set (i := 10) c_law_mean_steps.nd rfl (.inl rfl) (pe_call Dlaw_total.G (hr.mono (by first | decide | omega)) rfl Dlaw_total.g Dlaw_total.kp Dlaw_total.b .nil pass0 (pa_cons (pe_lc (own := [("at", 9)]) rfl c_law_mean_steps.nd (pi_list (pv 8)) (blkOk_by (own := [("at", 9)]) (N := n_law_mean_steps) (sc := defScope s_law_mean_steps) (by decide +kernel)) (fun _ _ _ _ _ => (pg_name (i := 9) c_law_mean_steps.nd rfl (.inl rfl))) (fun _ _ _ _ _ => pts_nil) (fun _ _ _ _ _ => (pe_ix (ix_listK (K := K) rfl) (pe_ix (ix_listK (K := K) rfl) (pv 4) (pv 7) (fun _ _ => rfl)) (pv 9) (fun _ _ => rfl)))) pa_nil)))
 (pss_one (ps_for PassesOwn.never rfl (pi_list (pv 8)) (pg_name (i := 11) c_law_mean_steps.nd rfl (.inl rfl))
 (pss_cons (ps_set (i := 12) c_law_mean_steps.nd rfl (.inl rfl) (pe_call Dlaw_over.G (hr.mono (by first | decide | omega)) rfl Dlaw_over.g Dlaw_over.kp Dlaw_over.b .nil pass0 (pa_cons (pe_ix ix_list (pe_ix ix_list (pv 4) (pv 11) (fun _ _ => rfl)) (pv 7) (fun _ _ => rfl)) (pa_cons (pv 10) pa_nil))))
 (pss_cons (ps_asg (pe_call Dlaw_plus.G (hr.mono (by first | decide | omega)) rfl Dlaw_plus.g Dlaw_plus.kp Dlaw_plus.b .nil pass0 (pa_cons (pe_ix ix_list (pv 5) (pv 11) (fun _ _ => rfl)) (pa_cons (pe_call Dlaw_times.G (hr.mono (by first | decide | omega)) rfl Dlaw_times.g Dlaw_times.kp Dlaw_times.b .nil pass0 (pa_cons (pv 12) (pa_cons (pe_ix ix_list (pv 5) (pv 7) (fun _ _ => rfl)) pa_nil))) pa_nil))) (pg_sub (pv 5) (pv 11) set_list))
 (pss_one (ps_for PassesOwn.never rfl (pi_list (pv 8)) (pg_name (i := 13) c_law_mean_steps.nd rfl (.inl rfl))
 (pss_one (ps_asg (pe_call Dlaw_plus.G (hr.mono (by first | decide | omega)) rfl Dlaw_plus.g Dlaw_plus.kp Dlaw_plus.b .nil pass0 (pa_cons (pe_ix ix_list (pe_ix ix_list (pv 4) (pv 11) (fun _ _ => rfl)) (pv 13) (fun _ _ => rfl)) (pa_cons (pe_call Dlaw_times.G (hr.mono (by first | decide | omega)) rfl Dlaw_times.g Dlaw_times.kp Dlaw_times.b .nil pass0 (pa_cons (pv 12) (pa_cons (pe_ix ix_list (pe_ix ix_list (pv 4) (pv 7) (fun _ _ => rfl)) (pv 13) (fun _ _ => rfl)) pa_nil))) pa_nil))) (pg_sub (pe_ix ix_list (pv 4) (pv 11) (fun _ _ => rfl)) (pv 13) set_list)))))))))))
 pss_nil)))
 (pss_one (ps_ret (pe_call Dlaw_over.G (hr.mono (by first | decide | omega)) rfl Dlaw_over.g Dlaw_over.kp Dlaw_over.b .nil pass0 (pa_cons (pe_ix ix_list (pv 5) (pv 1) (fun _ _ => rfl)) (pa_cons (pe_ix ix_list (pe_ix ix_list (pv 4) (pv 1) (fun _ _ => rfl)) (pv 2) (fun _ _ => rfl)) pa_nil))))))), ?_⟩
    obtain ⟨a, xs, rfl, na, ea, el⟩ := hd.tupI
    have xl : xs.length = k + 1 := by
      have := el.length
      unfold tabF at this
      simpa using this
    have ka : keepB [xa, xb] xa = true := by rw [keep2]; simp
    have kb : keepB [xa, xb] xb = true := by rw [keep2]; simp
    refine ⟨_, rfl, a, xs, rfl, .inr (.of ea), ?_⟩
    refine ⟨_, rfl, a, rfl, ⟨xs, .of ea⟩, fun D nD => lc_rows (walk_tup (K := K) (a := a) (xs := xs)) (n := k + 1) (R := wkQ (k + 1) R) (fun H' s' => .of (s' _ _ ea)) (fun i H' x H'' y => y) el (by omega) nD (fun _ => rfl)
      (fun H2 Q p ys ep q' => ⟨_, rfl, p, ys, rfl, .inr (.of ep), q'⟩) fun H1 rs m1 => ?_⟩
    refine ⟨sz63 (by show 2 ≤ 1000; decide), fun p1 np1 => ?_⟩
    have m2 := m1.grow (same_new (o := .tup [.int 1, .int 1]) np1)
    have f2 : FrA (upd H1 p1 (.tup [.int 1, .int 1])) (.ref p1) 1 := ⟨p1, rfl, upd_same⟩
    generalize upd H1 p1 (.tup [.int 1, .int 1]) = H2 at m2 f2 ⊢
    refine ⟨sz63 (by show 1 ≤ 1000; decide), fun L nL => ?_⟩
    have m3 := m2.grow (same_new (o := .lst [.ref p1]) nL)
    have f3 := f2.same (same_new (o := .lst [.ref p1]) nL)
    have e3 : (upd H2 L (.lst [.ref p1])) L = some (.lst [.ref p1]) := upd_same
    generalize upd H2 L (.lst [.ref p1]) = H3 at m3 f3 e3 ⊢
    refine ⟨_, rfl, a, xs, rfl, .inr (.of (m3.s _ _ ea)), ?_⟩
    rw [xl]
    have en : (List.replicate (((k + 1 : Nat) : Int)).toNat [V.ref p1]).flatten = List.replicate (k + 1) (.ref p1) := by
      rw [Int.toNat_natCast]
      exact List.flatten_replicate_singleton
    refine ⟨L, ((k + 1 : Nat) : Int), [.ref p1], rfl, rfl, e3, by omega, by omega, sz63 (by show 1 * (((k + 1 : Nat) : Int)).toNat ≤ 1000; rw [Int.toNat_natCast]; omega), fun C nC => ?_⟩
    rw [en]
    have m4 := m3.grow (same_new (o := .lst (List.replicate (k + 1) (.ref p1))) nC)
    have c4 : CsL H (upd H3 C (.lst (List.replicate (k + 1) (.ref p1)))) C (k + 1) fun _ => 1 := ⟨m3.s.free nC, _, upd_same, List.length_replicate, fun i v e => by
      rw [List.eq_of_mem_replicate (List.mem_of_getElem? e)]
      exact f3.same (same_new nC)⟩
    have CD : C ≠ D := fun z => by
      have := m3.eD
      rw [← z, nC] at this
      cases this
    have Cr : C ∉ rs := fun z => by
      obtain ⟨i, hi⟩ := List.mem_iff_getElem?.mp z
      obtain ⟨ys, e1, _⟩ := m3.row i C hi
      rw [nC] at e1
      cases e1
    generalize upd H3 C (.lst (List.replicate (k + 1) (.ref p1))) = H4 at m4 c4 ⊢
    refine ⟨sz63 (by show 3 ≤ 1000; decide), fun T nT => ⟨T, _, rfl, .of upd_same, rfl, _, _, rfl, _, _, rfl, _, _, rfl, rfl, ?_⟩⟩
    have m5 := m4.grow (same_new (o := .tup [.int ((k + 1 : Nat) : Nat), .ref D, .ref C]) nT)
    have c5 := c4.grow (same_new (o := .tup [.int ((k + 1 : Nat) : Nat), .ref D, .ref C]) nT)
    generalize upd H4 T (.tup [.int ((k + 1 : Nat) : Nat), .ref D, .ref C]) = H5 at m5 c5 ⊢
    clear m1 m2 m3 m4 c4 f2 f3 e3 nT nC nL np1 en
    refine ⟨_, rfl, _, rfl, by omega, by omega, ?_⟩
    refine for_range (lo := 0) (n := k + 1) (fun g σ H' => ∃ R' c' y6 y7 y8 y9 y10 y11 y12 y13, σ = [some (.ref a), some (.int (xa : Nat)), some (.int (xb : Nat)), some (.int ((k + 1 : Nat) : Nat)), some (.ref D), some (.ref C), y6, y7, y8, y9, y10, y11, y12, y13] ∧ MatH H H' D rs (k + 1) R' ∧ CsL H H' C (k + 1) c' ∧ (∀ i j, i < k + 1 → j < k + 1 → remB (keepB [xa, xb]) g i = true → remB (keepB [xa, xb]) g j = true → R' i j = loQ (k + 1) (keepB [xa, xb]) (wkQ (k + 1) R) g i j) ∧ ∀ i, i < k + 1 → remB (keepB [xa, xb]) g i = true → c' i = coQ (k + 1) (keepB [xa, xb]) (wkQ (k + 1) R) g i)
      ⟨_, _, _, _, _, _, _, _, _, _, rfl, m5, c5, fun _ _ _ _ _ _ => rfl, fun _ _ _ => rfl⟩ ?_ ?_
    · clear m5 c5
      rintro g σ H6 hg ⟨R3, c3, y6, y7, y8, y9, y10, y11, y12, y13, rfl, m3, l3, T3, K3⟩
      have e0 : (0 : Int) + ((g : Nat) : Int) = ((g : Nat) : Int) := by omega
      rw [e0]
      have keepcase : keepB [xa, xb] g = true → (∀ i j, i < k + 1 → j < k + 1 → remB (keepB [xa, xb]) (g + 1) i = true → remB (keepB [xa, xb]) (g + 1) j = true → R3 i j = loQ (k + 1) (keepB [xa, xb]) (wkQ (k + 1) R) (g + 1) i j) ∧ ∀ i, i < k + 1 → remB (keepB [xa, xb]) (g + 1) i = true → c3 i = coQ (k + 1) (keepB [xa, xb]) (wkQ (k + 1) R) (g + 1) i := fun kg => by
        refine ⟨fun i j hi hj pi pj => ?_, fun i hi pi => ?_⟩
        · rw [lo_succ_keep kg]
          rw [rem_keep kg] at pi pj
          exact T3 i j hi hj pi pj
        · rw [coQ, if_pos kg]
          rw [rem_keep kg] at pi
          exact K3 i hi pi
      refine ⟨_, rfl, _, rfl, rfl, _, rfl, ?_⟩
      by_cases gA : g = xa
      · have kc := keepcase (by rw [gA]; exact ka)
        rw [show decide (V.int (g : Nat) = V.int (xa : Nat)) = true from decide_eq_true (by rw [gA])]
        exact ifF (by simp) (ifF (by simp) ⟨R3, c3, _, _, _, _, _, _, _, _, rfl, m3, l3, kc.1, kc.2⟩)
      rw [show decide (V.int (g : Nat) = V.int (xa : Nat)) = false from decide_eq_false fun z => gA (by have := V.int.inj z; omega)]
      refine ifT (by rfl) ⟨_, rfl, _, rfl, rfl, _, rfl, ?_⟩
      by_cases gB : g = xb
      · have kc := keepcase (by rw [gB]; exact kb)
        rw [show decide (V.int (g : Nat) = V.int (xb : Nat)) = true from decide_eq_true (by rw [gB])]
        exact ifF (by simp) ⟨R3, c3, _, _, _, _, _, _, _, _, rfl, m3, l3, kc.1, kc.2⟩
      rw [show decide (V.int (g : Nat) = V.int (xb : Nat)) = false from decide_eq_false fun z => gB (by have := V.int.inj z; omega)]
      refine ifT (by rfl) ?_
      have kg : ¬ keepB [xa, xb] g = true := by
        rw [keep2]
        simp [gA, gB]
      clear keepcase
      refine ⟨_, rfl, _, rfl, by omega, by omega, fun O nO => ?_⟩
      refine lc_filtR (n := k + 1) (remB (keepB [xa, xb]) (g + 1)) nO (by omega) (fun x _ => rfl) (fun x => rfl) ?_ ?_
      · rintro i H4 T hi s4 nO4 q4
        have key := q4 H4 (.refl _)
        refine ⟨_, rfl, _, rfl, rfl, _, rfl, ?_⟩
        by_cases iA : i = xa
        · rw [show decide (V.int (i : Nat) = V.int (xa : Nat)) = true from decide_eq_true (by rw [iA])]
          have e : remB (keepB [xa, xb]) (g + 1) i = true := by
            unfold remB
            rw [iA, ka]
            rfl
          rw [e] at key
          exact ifT rfl key
        rw [show decide (V.int (i : Nat) = V.int (xa : Nat)) = false from decide_eq_false fun z => iA (by have := V.int.inj z; omega)]
        refine ifF Bool.false_ne_true ⟨_, rfl, _, rfl, rfl, _, rfl, ?_⟩
        by_cases iB : i = xb
        · rw [show decide (V.int (i : Nat) = V.int (xb : Nat)) = true from decide_eq_true (by rw [iB])]
          have e : remB (keepB [xa, xb]) (g + 1) i = true := by
            unfold remB
            rw [iB, kb]
            rfl
          rw [e] at key
          exact ifT rfl key
        rw [show decide (V.int (i : Nat) = V.int (xb : Nat)) = false from decide_eq_false fun z => iB (by have := V.int.inj z; omega)]
        refine ifF Bool.false_ne_true ⟨_, rfl, _, rfl, _, _, rfl, rfl, _, rfl, ?_⟩
        have e : remB (keepB [xa, xb]) (g + 1) i = decide ((g : Int) < (i : Int)) := by
          unfold remB
          rw [keep2, decide_eq_false iA, decide_eq_false iB, Bool.or_false, Bool.false_or]
          exact decide_eq_decide.mpr (by omega)
        rw [e] at key
        exact key
      · rintro H7 s7 eO
        have m4 := m3.grow s7
        have l4 := l3.grow s7
        have hOr : O ∉ rs := fun z => by
          obtain ⟨i, hi⟩ := List.mem_iff_getElem?.mp z
          obtain ⟨ys, e1, _⟩ := m3.row i O hi
          rw [nO] at e1
          cases e1
        have hOC : O ≠ C := fun z => by
          obtain ⟨cs, e1, _⟩ := l3.ls
          rw [← z, nO] at e1
          cases e1
        have wp := lo_whole (wk_lo bn) ha ka hg kg
        have zs : ∀ i j, i < k + 1 → j < k + 1 → remB (keepB [xa, xb]) g i = true → remB (keepB [xa, xb]) g j = true → Bq.Sz 790 (loQ (k + 1) (keepB [xa, xb]) (wkQ (k + 1) R) g i j) := fun i j hi hj ri rj => wk_bd bn n6 ha ka (by omega) hi hj ri rj
        have zc : ∀ i, i < k + 1 → remB (keepB [xa, xb]) g i = true → Bq.Sz 790 (coQ (k + 1) (keepB [xa, xb]) (wkQ (k + 1) R) g i) := fun i hi ri => by
          by_cases c : i = xb
          · exact co_sz bn n6 ha ka (by omega) hi ri (by rw [c]; exact fun z => ne z.symm)
          · exact co_sz bn n6 hb kb (by omega) hi ri c
        have es := el_sz zs (fun j hj => rem_up hj) hg (rem_self (keepB [xa, xb]) g) rfl wp
        have l1 := ln_out (n := k + 1) hg kg
        have l3' := lnR_le (k + 1) (remB (keepB [xa, xb]) g)
        have Se : sS (k + 1) (remB (keepB [xa, xb]) (g + 1)) (loQ (k + 1) (keepB [xa, xb]) (wkQ (k + 1) R) g g) = Bq.sumQ (((List.range (k + 1)).filter (remB (keepB [xa, xb]) (g + 1))).map (loQ (k + 1) (keepB [xa, xb]) (wkQ (k + 1) R) g g)) := rfl
        have ln : ((List.range (k + 1)).filter (remB (keepB [xa, xb]) (g + 1))).length = lnR (k + 1) (remB (keepB [xa, xb]) (g + 1)) := rfl
        have nd : ((List.range (k + 1)).filter (remB (keepB [xa, xb]) (g + 1))).Nodup := List.nodup_range.filter _
        have Sm : ∀ x, x ∈ (List.range (k + 1)).filter (remB (keepB [xa, xb]) (g + 1)) ↔ x < k + 1 ∧ remB (keepB [xa, xb]) (g + 1) x = true := fun x => by
          rw [List.mem_filter, List.mem_range]
        have rg := rem_self (keepB [xa, xb]) g
        have ro := rem_out kg
        have ru : ∀ j, remB (keepB [xa, xb]) (g + 1) j = true → remB (keepB [xa, xb]) g j = true := fun j hj => rem_up hj
        have Ls := lo_succ_out (n := k + 1) (F := wkQ (k + 1) R) kg
        have Cs : ∀ i, coQ (k + 1) (keepB [xa, xb]) (wkQ (k + 1) R) (g + 1) i = coQ (k + 1) (keepB [xa, xb]) (wkQ (k + 1) R) g i + loQ (k + 1) (keepB [xa, xb]) (wkQ (k + 1) R) g i g / sS (k + 1) (remB (keepB [xa, xb]) (g + 1)) (loQ (k + 1) (keepB [xa, xb]) (wkQ (k + 1) R) g g) * coQ (k + 1) (keepB [xa, xb]) (wkQ (k + 1) R) g g := fun i => by
          rw [coQ, if_neg kg]
        generalize hw0 : sS (k + 1) (remB (keepB [xa, xb]) (g + 1)) (loQ (k + 1) (keepB [xa, xb]) (wkQ (k + 1) R) g g) = w0 at *
        generalize (List.range (k + 1)).filter (remB (keepB [xa, xb]) (g + 1)) = S at *
        generalize lnR (k + 1) (remB (keepB [xa, xb]) (g + 1)) = m at *
        have m5 : m ≤ 5 := by omega
        have gS : g ∉ S := fun z => by
          have := ((Sm g).mp z).2
          rw [ro] at this
          cases this
        have Sl : (S.map fun i : Nat => V.int i).length = m := by rw [List.length_map, ln]
        refine ⟨_, rfl, O, rfl, ⟨_, .of eO⟩, fun D2 nD2 => lc_rel (walk_list (K := K) (a := O) (xs := S.map fun i : Nat => V.int i)) No
          (fun H' i y => ∃ t, S[i]? = some t ∧ ∃ p, y = .ref p ∧ p ≠ D2 ∧ H' p = some (.tup [.int (loQ (k + 1) (keepB [xa, xb]) (wkQ (k + 1) R) g g t).num, .int (loQ (k + 1) (keepB [xa, xb]) (wkQ (k + 1) R) g g t).den]))
          (fun H H' i v k r => ?_) nD2 (fun _ z => z.elim) (by omega) (fun H' k' => .of (no_same k' _ _ eO)) ?_ ?_⟩
        · obtain ⟨t, e, p, rfl, ne, hp⟩ := r
          exact ⟨t, e, p, rfl, ne, k _ _ (fun z => z.elim id ne) hp⟩
        · rintro i x H5 _ Q' hi k5 nD5 ⟨rfl, hx⟩ q'
          obtain ⟨t, et, rfl⟩ := map_some hx
          have s5 := no_same k5
          have m5' := m4.grow s5
          obtain ⟨tn, tq⟩ := (Sm t).mp (List.mem_of_getElem? et)
          obtain ⟨r, xr, er, exr, xrl, xra⟩ := m5'.at hg
          have ev : xr[t]? = some (xr[t]'(by omega)) := List.getElem?_eq_getElem (by omega)
          obtain ⟨p, ep, hp⟩ := xra t _ ev
          rw [ep] at ev
          rw [T3 g t hg tn rg (ru t tq)] at hp
          refine ⟨rfl, _, rfl, _, rfl, D, _, (g : Int), .ref r, rfl, rfl, .of m5'.eD, atI_nat (by rw [List.getElem?_map, er]; rfl), _, rfl, r, xr, (t : Int), .ref p, rfl, rfl, .of exr, atI_nat ev, ?_⟩
          refine q' _ _ (Kp.refl _) ⟨t, et, p, rfl, fun z => ?_, hp⟩
          rw [z] at hp
          obtain ⟨r', xr', er', exr', xrl', xra'⟩ := m4.at hg
          rw [er] at er'
          obtain rfl := Option.some.inj er'
          have h5 := s5 _ _ exr'
          rw [exr] at h5
          cases h5
          obtain ⟨p', ep', hp'⟩ := xra' t _ ev
          obtain rfl := V.ref.inj ep'
          rw [z, nD2] at hp'
          cases hp'
        · rintro H5 acc k5 eD5 hla hacc
          have s5 := no_same k5
          rw [Sl] at hla
          refine ⟨D2, acc, S.map (loQ (k + 1) (keepB [xa, xb]) (wkQ (k + 1) R) g g), 790, rfl, .of eD5, ⟨by rw [hla, List.length_map, ln], fun i v qq e1 e2 => ?_⟩, fun qq hq => ?_, by rw [List.length_map, ln]; omega, fun vg H8 s8 dg => ?_⟩
          · obtain ⟨t, et, p, rfl, _, hp⟩ := hacc i v e1
            rw [List.getElem?_map, et] at e2
            obtain rfl := Option.some.inj e2
            exact ⟨p, rfl, .of hp⟩
          · obtain ⟨t, ht, rfl⟩ := List.mem_map.mp hq
            obtain ⟨tn, tq⟩ := (Sm t).mp ht
            exact zs g t hg tn rg (ru t tq)
          · rw [← Se] at dg
            have fg : FrA H8 vg w0 := dq_frA dg
            have s58 := s5.trans s8
            have m6 := m4.grow s58
            have l6 := l4.grow s58
            have eO6 := s58 _ _ eO
            have T6 : Tel (k + 1) (remB (keepB [xa, xb]) g) S (elQ w0 g (loQ (k + 1) (keepB [xa, xb]) (wkQ (k + 1) R) g)) (loQ (k + 1) (keepB [xa, xb]) (wkQ (k + 1) R) g) 0 0 R3 := Tel.start T3
            have C6 : (∀ j h, S[j]? = some h → c3 h = if j < 0 then coQ (k + 1) (keepB [xa, xb]) (wkQ (k + 1) R) (g + 1) h else coQ (k + 1) (keepB [xa, xb]) (wkQ (k + 1) R) g h) ∧ c3 g = coQ (k + 1) (keepB [xa, xb]) (wkQ (k + 1) R) g g := ⟨fun j h e => by
              rw [if_neg (Nat.not_lt_zero j)]
              obtain ⟨hn, hq⟩ := (Sm h).mp (List.mem_of_getElem? e)
              exact K3 h hn (ru h hq), K3 g hg rg⟩
            clear dg s58 s5 s8 m4 l4 hacc k5 eD5 eO
            refine ⟨_, rfl, O, rfl, ⟨_, .of eO6⟩, ?_⟩
            refine for_list (K := K) (a := O) (xs := S.map fun i : Nat => V.int i) (fun u σ H' => ∃ R' c' y9 y11 y12 y13, σ = [some (.ref a), some (.int (xa : Nat)), some (.int (xb : Nat)), some (.int ((k + 1 : Nat) : Nat)), some (.ref D), some (.ref C), y6, some (.int (g : Nat)), some (.ref O), y9, some vg, y11, y12, y13] ∧ MatH H H' D rs (k + 1) R' ∧ CsL H H' C (k + 1) c' ∧ H' O = some (.lst (S.map fun i : Nat => V.int i)) ∧ FrA H' vg w0 ∧
                Tel (k + 1) (remB (keepB [xa, xb]) g) S (elQ w0 g (loQ (k + 1) (keepB [xa, xb]) (wkQ (k + 1) R) g)) (loQ (k + 1) (keepB [xa, xb]) (wkQ (k + 1) R) g) u 0 R' ∧ (∀ j h, S[j]? = some h → c' h = if j < u then coQ (k + 1) (keepB [xa, xb]) (wkQ (k + 1) R) (g + 1) h else coQ (k + 1) (keepB [xa, xb]) (wkQ (k + 1) R) g h) ∧ c' g = coQ (k + 1) (keepB [xa, xb]) (wkQ (k + 1) R) g g)
              ⟨_, _, _, _, _, _, rfl, m6, l6, eO6, fg, T6, C6.1, C6.2⟩ (fun i σ H' _ ⟨_, _, _, _, _, _, _, _, _, e, _⟩ => .of e) ?_ ?_
            · clear m6 l6 eO6 fg T6 C6
              rintro u x σ H9 hx ⟨R7, c7, y9', y11', y12', y13', rfl, m7, l7, eO7, fg7, T7, C7, Cg⟩
              obtain ⟨h, eh, rfl⟩ := map_some hx
              obtain ⟨hn, hq⟩ := (Sm h).mp (List.mem_of_getElem? eh)
              have eR1 := T7.off hn hg (ru h hq) rg (.inr gS)
              obtain ⟨r, xr, er, exr, xrl, xra⟩ := m7.at hn
              have ev : xr[g]? = some (xr[g]'(by omega)) := List.getElem?_eq_getElem (by omega)
              have fv := xra g _ ev
              rw [eR1] at fv
              generalize xr[g]'(by omega) = v at ev fv
              have z1 := zs h g hn hg (ru h hq) rg
              have zp := z1.div es.1 (Bq.num_pos.mpr wp)
              have zh := zc h hn (ru h hq)
              have zg := zc g hg rg
              have ch := C7 u h eh
              rw [if_neg (Nat.lt_irrefl u)] at ch
              refine ⟨_, rfl, _, rfl, D, _, (h : Int), .ref r, rfl, rfl, .of m7.eD, atI_nat (by rw [List.getElem?_map, er]; rfl), _, rfl, r, xr, (g : Int), v, rfl, rfl, .of exr, atI_nat ev, _, rfl, ?_⟩
              refine ⟨v, vg, _, _, 790, 1 + m * (790 + 1), rfl, fv.fr, fg7.fr, z1, es.1, by omega, wp, fun pa npa => ?_⟩
              have Ch := Cs h
              generalize hpq : loQ (k + 1) (keepB [xa, xb]) (wkQ (k + 1) R) g h g / w0 = pq at zp Ch ⊢
              have s1 : Same H9 (upd H9 pa (.tup [.int pq.num, .int pq.den])) := same_new npa
              have m7p := m7.grow s1
              have l7p := l7.grow s1
              have fp7 : FrA (upd H9 pa (.tup [.int pq.num, .int pq.den])) (.ref pa) pq := ⟨pa, rfl, upd_same⟩
              have fg7p := fg7.same s1
              have eO7p := s1 _ _ eO7
              generalize upd H9 pa (.tup [.int pq.num, .int pq.den]) = H7' at m7p l7p fp7 fg7p eO7p ⊢
              clear m7 l7 eO7 fg7 s1 npa exr xra er ev fv
              -- cost
              obtain ⟨cs, vh, eC, cl, ech, fh⟩ := l7p.at hn
              obtain ⟨cs', vgc, eC', _, ecg, fgc⟩ := l7p.at hg
              rw [eC] at eC'
              obtain rfl : cs = cs' := by
                have := Option.some.inj eC'
                cases this
                rfl
              rw [ch] at fh
              rw [Cg] at fgc
              refine ⟨_, rfl, _, rfl, C, cs, (h : Int), vh, rfl, rfl, .of eC, atI_nat ech, _, rfl, _, rfl, _, rfl, C, cs, (g : Int), vgc, rfl, rfl, .of eC, atI_nat ecg, ?_⟩
              refine ⟨.ref pa, vgc, pq, _, 790 + (1 + m * (790 + 1)), 790, rfl, fp7.fr, fgc.fr, zp, zg, by omega, fun pb npb => ?_⟩
              have zt := zp.mul zg
              generalize pq * coQ (k + 1) (keepB [xa, xb]) (wkQ (k + 1) R) g g = tq at zt Ch ⊢
              have s2 : Same H7' (upd H7' pb (.tup [.int tq.num, .int tq.den])) := same_new npb
              have ft : FrA (upd H7' pb (.tup [.int tq.num, .int tq.den])) (.ref pb) tq := ⟨pb, rfl, upd_same⟩
              have fh2 := fh.same s2
              have m7q := m7p.grow s2
              have l7q := l7p.grow s2
              have fp8 := fp7.same s2
              have fg8 := fg7p.same s2
              have eO8 := s2 _ _ eO7p
              have eC8 := s2 _ _ eC
              generalize upd H7' pb (.tup [.int tq.num, .int tq.den]) = H8' at m7q l7q fp8 fg8 eO8 eC8 ft fh2 ⊢
              refine ⟨vh, .ref pb, _, tq, 790, 790 + (1 + m * (790 + 1)) + 790, rfl, fh2.fr, ft.fr, zh, zt, by omega, fun pc npc => ?_⟩
              rw [← Ch]
              have s3 : Same H8' (upd H8' pc (.tup [.int (coQ (k + 1) (keepB [xa, xb]) (wkQ (k + 1) R) (g + 1) h).num, .int (coQ (k + 1) (keepB [xa, xb]) (wkQ (k + 1) R) (g + 1) h).den])) := same_new npc
              have fc : FrA (upd H8' pc (.tup [.int (coQ (k + 1) (keepB [xa, xb]) (wkQ (k + 1) R) (g + 1) h).num, .int (coQ (k + 1) (keepB [xa, xb]) (wkQ (k + 1) R) (g + 1) h).den])) (.ref pc) (coQ (k + 1) (keepB [xa, xb]) (wkQ (k + 1) R) (g + 1) h) := ⟨pc, rfl, upd_same⟩
              have m7r := m7q.grow s3
              have l7r := l7q.grow s3
              have fp9 := fp8.same s3
              have fg9 := fg8.same s3
              have eO9 := s3 _ _ eO8
              have eC9 := s3 _ _ eC8
              generalize upd H8' pc (.tup [.int (coQ (k + 1) (keepB [xa, xb]) (wkQ (k + 1) R) (g + 1) h).num, .int (coQ (k + 1) (keepB [xa, xb]) (wkQ (k + 1) R) (g + 1) h).den]) = H10 at m7r l7r fp9 fg9 eO9 eC9 fc ⊢
              refine ⟨_, rfl, _, rfl, C, cs, (h : Int), h, rfl, rfl, eC9, ixNat (by omega), ?_⟩
              have ntC : ∀ xs, H10 C ≠ some (.tup xs) := fun xs => by
                rw [eC9]
                exact fun z => nomatch z
              have l10 := l7r.set (j := h) eC9 fc
              have m10 := m7r.other (o := .lst (cs.set h (.ref pc))) ntC l7r.c0 CD Cr
              have fp10 := fp9.frame (o := .lst (cs.set h (.ref pc))) ntC
              have fg10 := fg9.frame (o := .lst (cs.set h (.ref pc))) ntC
              have eO10 : (upd H10 C (.lst (cs.set h (.ref pc)))) O = some (.lst (S.map fun i : Nat => V.int i)) := by
                rw [upd_ne hOC]
                exact eO9
              generalize upd H10 C (.lst (cs.set h (.ref pc))) = H11 at l10 m10 fp10 fg10 eO10 ⊢
              have CC : (∀ j x, S[j]? = some x → (if x = h then coQ (k + 1) (keepB [xa, xb]) (wkQ (k + 1) R) (g + 1) h else c7 x) = if j < u + 1 then coQ (k + 1) (keepB [xa, xb]) (wkQ (k + 1) R) (g + 1) x else coQ (k + 1) (keepB [xa, xb]) (wkQ (k + 1) R) g x) ∧ (if g = h then coQ (k + 1) (keepB [xa, xb]) (wkQ (k + 1) R) (g + 1) h else c7 g) = coQ (k + 1) (keepB [xa, xb]) (wkQ (k + 1) R) g g := by
                refine ⟨fun j x ex => ?_, ?_⟩
                · by_cases c : x = h
                  · subst c
                    have ju : j = u := by
                      have lj := (List.getElem?_eq_some_iff.mp ex).1
                      have lu := (List.getElem?_eq_some_iff.mp eh).1
                      have h1 := (List.getElem?_eq_some_iff.mp ex).2
                      have h2 := (List.getElem?_eq_some_iff.mp eh).2
                      exact (List.getElem_inj nd).mp (h1.trans h2.symm)
                    rw [if_pos rfl, if_pos (by omega)]
                  · rw [if_neg c, C7 j x ex]
                    have ju : j ≠ u := fun z => c (by
                      rw [z, eh] at ex
                      exact (Option.some.inj ex).symm)
                    by_cases d : j < u
                    · rw [if_pos d, if_pos (by omega)]
                    · rw [if_neg d, if_neg (by omega)]
                · rw [if_neg (fun z => gS (by rw [z]; exact List.mem_of_getElem? eh)), Cg]
              clear l7r m7r fp9 fg9 eO9 eC9 fc s3 s2 fp8 fg8 eO8 eC8 l7q m7q fh2 ft fh fgc eC ech ecg l7p m7p fp7 fg7p eO7p C7 Cg Ch
              obtain ⟨CC1, CC2⟩ := CC
              refine ⟨_, rfl, O, rfl, ⟨_, .of eO10⟩, ?_⟩
              refine for_list (K := K) (a := O) (xs := S.map fun i : Nat => V.int i) (fun u2 σ H' => ∃ R' y13, σ = [some (.ref a), some (.int (xa : Nat)), some (.int (xb : Nat)), some (.int ((k + 1 : Nat) : Nat)), some (.ref D), some (.ref C), y6, some (.int (g : Nat)), some (.ref O), y9', some vg, some (.int (h : Nat)), some (.ref pa), y13] ∧ MatH H H' D rs (k + 1) R' ∧ CsL H H' C (k + 1) (fun i => if i = h then coQ (k + 1) (keepB [xa, xb]) (wkQ (k + 1) R) (g + 1) h else c7 i) ∧ H' O = some (.lst (S.map fun i : Nat => V.int i)) ∧ FrA H' vg w0 ∧ FrA H' (.ref pa) pq ∧
                  Tel (k + 1) (remB (keepB [xa, xb]) g) S (elQ w0 g (loQ (k + 1) (keepB [xa, xb]) (wkQ (k + 1) R) g)) (loQ (k + 1) (keepB [xa, xb]) (wkQ (k + 1) R) g) u u2 R')
                ⟨_, _, rfl, m10, l10, eO10, fg10, fp10, T7⟩ (fun i σ H' _ ⟨_, _, _, _, _, e, _⟩ => .of e) ?_ ?_
              · clear m10 l10 eO10 fg10 fp10 T7
                rintro u2 x σ H8 hx2 ⟨R8, y13'', rfl, m8, l8, eO8, fg8, fp8, T8⟩
                obtain ⟨t, et, rfl⟩ := map_some hx2
                obtain ⟨tn, tq2⟩ := (Sm t).mp (List.mem_of_getElem? et)
                have eR2 := T8.off hg tn rg (ru t tq2) (.inl gS)
                have eR3 := T8.at nd eh et hn tn (ru h hq) (ru t tq2)
                obtain ⟨r, xr, er, exr, xrl, xra⟩ := m8.at hn
                obtain ⟨rg', xg, erg, exg, xgl, xga⟩ := m8.at hg
                have ev2 : xg[t]? = some (xg[t]'(by omega)) := List.getElem?_eq_getElem (by omega)
                have ev3 : xr[t]? = some (xr[t]'(by omega)) := List.getElem?_eq_getElem (by omega)
                have fv2 := xga t _ ev2
                have fv3 := xra t _ ev3
                rw [eR2] at fv2
                rw [eR3] at fv3
                generalize xg[t]'(by omega) = v2 at ev2 fv2
                generalize xr[t]'(by omega) = v3 at ev3 fv3
                have z2 := zs g t hg tn rg (ru t tq2)
                have z3 := zs h t hn tn (ru h hq) (ru t tq2)
                have ee : elQ w0 g (loQ (k + 1) (keepB [xa, xb]) (wkQ (k + 1) R) g) h t = loQ (k + 1) (keepB [xa, xb]) (wkQ (k + 1) R) g h t + pq * loQ (k + 1) (keepB [xa, xb]) (wkQ (k + 1) R) g g t := by
                  unfold elQ
                  rw [← hpq]
                  generalize loQ (k + 1) (keepB [xa, xb]) (wkQ (k + 1) R) g h t = a1
                  generalize loQ (k + 1) (keepB [xa, xb]) (wkQ (k + 1) R) g h g = a2
                  generalize loQ (k + 1) (keepB [xa, xb]) (wkQ (k + 1) R) g g t = a3
                  have w1 : w0 ≠ 0 := by grind
                  grind
                have nCr : C ≠ r := fun z => Cr (by rw [z]; exact List.mem_of_getElem? er)
                have ner : O ≠ r := fun z => hOr (by rw [z]; exact List.mem_of_getElem? er)
                refine ⟨_, rfl, _, rfl, D, _, (h : Int), .ref r, rfl, rfl, .of m8.eD, atI_nat (by rw [List.getElem?_map, er]; rfl), _, rfl, r, xr, (t : Int), v3, rfl, rfl, .of exr, atI_nat ev3, _, rfl, ?_⟩
                refine ⟨_, rfl, _, rfl, D, _, (g : Int), .ref rg', rfl, rfl, .of m8.eD, atI_nat (by rw [List.getElem?_map, erg]; rfl), _, rfl, rg', xg, (t : Int), v2, rfl, rfl, .of exg, atI_nat ev2, ?_⟩
                refine ⟨.ref pa, v2, pq, _, 790 + (1 + m * (790 + 1)), 790, rfl, fp8.fr, fv2.fr, zp, z2, by omega, fun b nb => ?_⟩
                have zt2 := zp.mul z2
                generalize pq * loQ (k + 1) (keepB [xa, xb]) (wkQ (k + 1) R) g g t = g1 at zt2 ee ⊢
                have s1 : Same H8 (upd H8 b (.tup [.int g1.num, .int g1.den])) := same_new nb
                have f1 : FrA (upd H8 b (.tup [.int g1.num, .int g1.den])) (.ref b) g1 := ⟨b, rfl, upd_same⟩
                have m9 := m8.grow s1
                have l9 := l8.grow s1
                have fg9 := fg8.same s1
                have fp9 := fp8.same s1
                have fv9 := fv3.same s1
                have exr9 := s1 _ _ exr
                have eO9 := s1 _ _ eO8
                generalize upd H8 b (.tup [.int g1.num, .int g1.den]) = H9' at m9 l9 f1 fg9 fp9 fv9 exr9 eO9 ⊢
                refine ⟨v3, .ref b, _, _, 790, 790 + (1 + m * (790 + 1)) + 790, rfl, fv9.fr, f1.fr, z3, zt2, by omega, fun b3 nb3 => ?_⟩
                rw [← ee]
                generalize hcc : elQ w0 g (loQ (k + 1) (keepB [xa, xb]) (wkQ (k + 1) R) g) h t = cc at ee ⊢
                have s3 : Same H9' (upd H9' b3 (.tup [.int cc.num, .int cc.den])) := same_new nb3
                have fc : FrA (upd H9' b3 (.tup [.int cc.num, .int cc.den])) (.ref b3) cc := ⟨b3, rfl, upd_same⟩
                have m11 := m9.grow s3
                have l11 := l9.grow s3
                have fg11 := fg9.same s3
                have fp11 := fp9.same s3
                have exr11 := s3 _ _ exr9
                have eO11 := s3 _ _ eO9
                generalize upd H9' b3 (.tup [.int cc.num, .int cc.den]) = H12 at m11 l11 fc fg11 fp11 exr11 eO11 ⊢
                refine ⟨_, rfl, _, rfl, D, _, (h : Int), .ref r, rfl, rfl, .of m11.eD, atI_nat (by rw [List.getElem?_map, er]; rfl), _, rfl, r, xr, (t : Int), t, rfl, rfl, exr11, ixNat (by omega), ?_⟩
                have nt : ∀ xs, H12 r ≠ some (.tup xs) := fun xs => by
                  rw [exr11]
                  exact fun z => nomatch z
                have T9 := T8.set nd eh et
                rw [hcc] at T9
                exact ⟨_, _, rfl, m11.set (b := t) er exr11 fc, l11.frame (fun z => nCr z.symm) nt, by rw [upd_ne ner]; exact eO11, fg11.frame nt, fp11.frame nt, T9⟩
              · rintro σ H8 ⟨R8, y13'', rfl, m8, l8, eO8, fg8, fp8, T8⟩
                rw [List.length_map] at T8
                exact ⟨_, _, _, _, _, _, rfl, m8, l8, eO8, fg8, T8.next eh, CC1, CC2⟩
            · rintro σ H9 ⟨R7, c7, y9', y11', y12', y13', rfl, m7, l7, eO7, fg7, T7, C7, Cg⟩
              rw [List.length_map] at T7 C7
              refine ⟨R7, c7, _, _, _, _, _, _, _, _, rfl, m7, l7, fun i j hi hj pi pj => ?_, fun i hi pi => ?_⟩
              · rw [Ls]
                exact T7.done hi hj (ru i pi) (ru j pj) ((Sm i).mpr ⟨hi, pi⟩) ((Sm j).mpr ⟨hj, pj⟩)
              · obtain ⟨j, hj⟩ := List.mem_iff_getElem?.mp ((Sm i).mpr ⟨hi, pi⟩)
                rw [C7 j i hj, if_pos (List.getElem?_eq_some_iff.mp hj).1]
    · clear m5 c5
      rintro σ H6 ⟨R3, c3, y6, y7, y8, y9, y10, y11, y12, y13, rfl, m3, l3, T3, K3⟩
      obtain ⟨lp, sv⟩ := stp_left bn n6 ha hb ne
      have eR := T3 xa xb ha hb (by rw [rem_end ha]; exact ka) (by rw [rem_end hb]; exact kb)
      have eK := K3 xa ha (by rw [rem_end ha]; exact ka)
      have z1 := co_sz bn n6 hb kb (Nat.le_refl _) ha (by rw [rem_end ha]; exact ka) ne
      have z2 := wk_bd (keep := keepB [xa, xb]) bn n6 ha ka (Nat.le_refl (k + 1)) ha hb (by rw [rem_end ha]; exact ka) (by rw [rem_end hb]; exact kb)
      obtain ⟨cs, v1, eC, cl, ev1, fv1⟩ := l3.at ha
      rw [eK] at fv1
      obtain ⟨r, xr, er, exr, xrl, xra⟩ := m3.at ha
      have ev : xr[xb]? = some (xr[xb]'(by omega)) := List.getElem?_eq_getElem (by omega)
      have fv := xra xb _ ev
      rw [eR] at fv
      generalize xr[xb]'(by omega) = v2 at ev fv
      refine ⟨_, rfl, _, rfl, C, cs, (xa : Int), v1, rfl, rfl, .of eC, atI_nat ev1, ?_⟩
      refine ⟨_, rfl, _, rfl, D, _, (xa : Int), .ref r, rfl, rfl, .of m3.eD, atI_nat (by rw [List.getElem?_map, er]; rfl), _, rfl, r, xr, (xb : Int), v2, rfl, rfl, .of exr, atI_nat ev, ?_⟩
      have z3 := z1.div z2 (Bq.num_pos.mpr lp)
      refine ⟨v1, v2, _, _, 790, 790, rfl, fv1.fr, fv.fr, z1, z2, by omega, lp, fun p np => ?_⟩
      rw [sv] at z3 ⊢
      exact q _ _ (m3.s.trans (same_new np)) ⟨p, rfl, upd_same⟩ (z3.mono (by decide))
end
end Kx
set_option exponentiation.threshold 10000
/-! The program: what all ties weigh; steps there and back. -/
namespace Kx
open PySem PySem.Spec PyProof.Rows L2 Bw
abbrev stimes : Stmt := topS 15
abbrev ntimes : List Str := ["one", "other"]
theorem ctimes : FnScope ntimes ["one", "other"] (defScope stimes) :=
  ⟨rfl, rfl, rfl, by decide +kernel, rfl, by decide +kernel, by decide +kernel⟩

abbrev sin_all : Stmt := topS 40
abbrev nin_all : List Str := ["weights", "row"]
theorem cin_all : FnScope nin_all ["weights"] (defScope sin_all) :=
  ⟨rfl, rfl, rfl, by decide +kernel, rfl, by decide +kernel, by decide +kernel⟩

abbrev sthere_and_back : Stmt := topS 41
abbrev nthere_and_back : List Str := ["weights", "one", "two"]
theorem cthere_and_back : FnScope nthere_and_back ["weights", "one", "two"] (defScope sthere_and_back) :=
  ⟨rfl, rfl, rfl, by decide +kernel, rfl, by decide +kernel, by decide +kernel⟩

theorem sum_sz {z : Nat} : ∀ {l : List Rat}, (∀ q ∈ l, Bq.Sz z q) → Bq.Sz (1 + l.length * (z + 1)) (Bq.sumQ l)
  | [], _ => Bq.Sz.zero.mono (by omega)
  | q :: l, h => by
    have h1 := sum_sz (l := l) fun x hx => h x (List.mem_cons_of_mem _ hx)
    have h2 := (h q List.mem_cons_self).add h1
    refine h2.mono ?_
    rw [List.length_cons, Nat.succ_mul]
    omega
section
variable {P : Program} {w : World} {K : PySem.W.Frag} {mg : Str → Option Value} {base : Heap}
theorem ok_times {f : Addr} {fd : FuncData} (F : Fun K "times" "times" stimes f fd) (M : Mb mg) (Dlowest : Df P w K mg base 1 "lowest" ["top", "bottom"] spLowest) : FnOk P w K mg base CX0 2 f fd ["one", "other"] (spTimes K) := by
  refine F.ok ctimes (fun vs H Q E h => ?_) (fun cdv A outer s H vs Q E hr h => ?_)
  · obtain ⟨v, u, p, q, m, n, rfl, _⟩ := h
    rfl
  · obtain ⟨v, u, p, r, m, n, rfl, ⟨a, rfl, ha⟩, ⟨b, rfl, hb⟩, sp, sr, hmn, q⟩ := h
    refine ⟨_, (pss_one (ps_ret (pe_call Dlowest.G (hr.mono (by first | decide | omega)) rfl Dlowest.g Dlowest.kp Dlowest.b .nil pass0 (pa_cons (pe_op op_mulW (pe_ix ix_tup (pv 0) pe_int (fun _ _ => rfl)) (pe_ix ix_tup (pv 1) pe_int (fun _ _ => rfl))) (pa_cons (pe_op op_mulW (pe_ix ix_tup (pv 0) pe_int (fun _ _ => rfl)) (pe_ix ix_tup (pv 1) pe_int (fun _ _ => rfl))) pa_nil))))), ?_⟩
    have m0 := sz_pos sp
    have n0 := sz_pos sr
    refine ⟨_, rfl, a, _, 0, _, rfl, rfl, ha, rfl, _, rfl, b, _, 0, _, rfl, rfl, hb, rfl, _, _, rfl, rfl, mulW sp.1 sr.1 m0 n0 hmn, ?_⟩
    refine ⟨_, rfl, a, _, 1, _, rfl, rfl, ha, rfl, _, rfl, b, _, 1, _, rfl, rfl, hb, rfl, _, _, rfl, rfl, mulW (Bq.den_abs sp) (Bq.den_abs sr) m0 n0 hmn, ?_⟩
    refine ⟨_, _, m + n, rfl, Bq.dens_pos p r, Bq.dens sp sr, hmn, fun x hx => ?_⟩
    have q' := q x hx
    rw [← Bq.q_mul] at q'
    exact q'
/-- the sum of a list, its parts' sums of a known size -/
def spTotB (K : PySem.W.Frag) : Sp := fun vs H Q _ => ∃ (a : Addr) (xs : List V) (qs : List Rat) (n m : Nat), vs = [.ref a] ∧ SqL K H a xs ∧ FrRow K H xs qs ∧ (∀ q ∈ qs, Bq.Sz n q) ∧ (∀ i, Bq.Sz m (Bq.sumQ (qs.take i))) ∧ m + n ≤ 9000 ∧
  ∀ v H', Same H H' → FrR K H' v (Bq.sumQ qs) → Q v H'
theorem ok_totB {f : Addr} {fd : FuncData} (F : Fun K "total" "total" stotal f fd) (M : Mb mg) (Z : Mp K mg) (Dplus : Df P w K mg base 2 "plus" ["one", "other"] (spPlus K)) : FnOk P w K mg base CX0 3 f fd ["fractions"] (spTotB K) := by
  refine F.ok ctotal (fun vs H Q E h => ?_) (fun cdv A outer s H vs Q E hr h => ?_)
  · obtain ⟨a, xs, qs, n, m, rfl, _⟩ := h
    rfl
  · obtain ⟨a, xs, qs, n, m, rfl, ha, hx, hs, hm, hn, q⟩ := h
    refine ⟨_, (pss_cons (ps_set (i := 1) ctotal.nd rfl (.inl rfl) (pe_glob (v := .ref Z.nilA) rfl Z.nil rfl))
 (pss_cons (ps_for PassesOwn.never rfl (pi_list (pv 0)) (pg_name (i := 2) ctotal.nd rfl (.inl rfl))
 (pss_one (ps_set (i := 1) ctotal.nd rfl (.inl rfl) (pe_call Dplus.G (hr.mono (by first | decide | omega)) rfl Dplus.g Dplus.kp Dplus.b .nil pass0 (pa_cons (pv 1) (pa_cons (pv 2) pa_nil))))))
 (pss_one (ps_ret (pv 1))))), ?_⟩
    refine ⟨_, rfl, a, rfl, ⟨_, ha⟩, for_list (K := K) (a := a) (xs := xs)
      (fun i σ H' => ∃ v y, σ = [some (.ref a), some v, y] ∧ Same H H' ∧ FrR K H' v (Bq.sumQ (qs.take i)))
      ⟨_, none, rfl, .refl H, ⟨_, rfl, Z.nilT H⟩⟩ (fun i σ H' _ ⟨_, _, _, s, _⟩ => s.seq ha) ?_ ?_⟩
    · rintro i x σ H1 hi ⟨v, y, rfl, s1, hv⟩
      have hl : i < qs.length := by
        rw [← hx.1]
        exact (List.getElem?_eq_some_iff.mp hi).1
      have e : qs[i]? = some qs[i] := List.getElem?_eq_getElem hl
      refine ⟨_, rfl, _, rfl, v, x, _, _, m, n, rfl, hv, (hx.2 i x _ hi e).same s1, hm i, hs _ (List.mem_of_getElem? e), hn, fun p hp => ?_⟩
      rw [← sum_take e]
      exact ⟨_, _, rfl, s1.trans (same_new hp), ⟨p, rfl, .of upd_same⟩⟩
    · rintro σ H1 ⟨v, y, rfl, s1, hv⟩
      rw [hx.1, List.take_length] at hv
      exact ⟨_, rfl, q v H1 s1 hv⟩
def allW (n : Nat) (R : Nat → Nat → Rat) : Rat := s1 n (rwS n R)
def spIA (K : PySem.W.Frag) : Sp := fun vs H Q _ => ∃ (W : Addr → Prop) (v : V) (n : Nat) (R : Nat → Nat → Rat), vs = [v] ∧ Dq W H v (tabD (tabF n R)) ∧ 1 ≤ n ∧ n ≤ 6 ∧ Bnds n R ∧ ∀ v' H', Same H H' → FrR K H' v' (allW n R) → Q v' H'
theorem all_sz {n : Nat} {R : Nat → Nat → Rat} (bn : Bnds n R) (n6 : n ≤ 6) : Bq.Sz 770 (allW n R) := by
  have := sum_sz (z := 127) (l := (List.range n).map (rwS n R)) fun q hq => by
    obtain ⟨i, _, rfl⟩ := List.mem_map.mp hq
    exact rw_sz bn n6 i
  rw [List.length_map, List.length_range] at this
  exact this.mono (by omega)
theorem ok_ia {f : Addr} {fd : FuncData} (F : Fun K "in_all" "in_all" sin_all f fd) (M : Mb mg) (Dcheck_weights : Df P w K mg base 7 "check_weights" ["weights"] spChW) (Dtotal : Df P w K mg base 3 "total" ["fractions"] (spTotal K)) (DtotB : Df P w K mg base 3 "total" ["fractions"] (spTotB K)) :
    FnOk P w K mg base CX0 8 f fd ["weights"] (spIA K) := by
  refine F.ok cin_all (fun vs H Q E h => ?_) (fun cdv A outer s H vs Q E hr h => ?_)
  · obtain ⟨_, v, n, R, rfl, _⟩ := h
    rfl
  · obtain ⟨W, v, n, R, rfl, hd, n1, n6, bn, q⟩ := h
    refine ⟨_, (pss_cons (ps_expr (pe_call Dcheck_weights.G (hr.mono (by first | decide | omega)) rfl Dcheck_weights.g Dcheck_weights.kp Dcheck_weights.b .nil pass0 (pa_cons (pv 0) pa_nil)))
 (pss_one (ps_ret (pe_call DtotB.G (hr.mono (by first | decide | omega)) rfl DtotB.g DtotB.kp DtotB.b .nil pass0 (pa_cons (pe_lc (own := [("row", 1)]) rfl cin_all.nd (pi_tup (pv 0)) (blkOk_by (own := [("row", 1)]) (N := nin_all) (sc := defScope sin_all) (by decide +kernel)) (fun _ _ _ _ _ => (pg_name (i := 1) cin_all.nd rfl (.inl rfl))) (fun _ _ _ _ _ => pts_nil) (fun _ _ _ _ _ => (pe_call Dtotal.G (hr.mono (by first | decide | omega)) rfl Dtotal.g Dtotal.kp Dtotal.b .nil pass0 (pa_cons (pv 1) pa_nil)))) pa_nil))))), ?_⟩
    refine ⟨_, rfl, W, v, n, R, rfl, hd, n1, n6, bn, fun H1 s1 => ?_⟩
    have hd1 := hd.keep (Kp.same s1)
    obtain ⟨a, xs, rfl, na, ea, el⟩ := hd1.tupI
    unfold tabF at el
    have xl : xs.length = n := by
      have := el.length
      simpa using this
    refine ⟨_, rfl, a, rfl, ⟨xs, .of ea⟩, fun D nD => ?_⟩
    refine lc_rel (walk_tup (K := K) (a := a) (xs := xs)) No (fun H' i y => ∃ p, y = .ref p ∧ p ≠ D ∧ H' p = some (.tup [.int (rwS n R i).num, .int (rwS n R i).den])) (fun H H' i v k r => ?_) nD (fun _ z => z.elim) (by omega) (fun H' k' => .of (no_same k' _ _ ea)) ?_ ?_
    · obtain ⟨p, rfl, g1, e⟩ := r
      exact ⟨p, rfl, g1, k _ _ (fun z => z.elim id g1) e⟩
    · rintro i x H2 _ Q' hi k2 nD2 ⟨rfl, hx⟩ q'
      have s2 := no_same k2
      obtain ⟨hin, dx⟩ := tab_at el hx
      obtain ⟨c, zs, rfl, nc, ec, ez⟩ := (dx.keep (Kp.same s2)).tupI
      refine ⟨rfl, _, rfl, c, zs, _, 20, rfl, .of ec, dq_row ez, fun p hp => ?_, by rw [List.length_map, List.length_range]; omega, fun v3 H3 s3 _ d3 => ?_⟩
      · obtain ⟨j, hj, rfl⟩ := List.mem_map.mp hp
        exact wt_sz (bn.wt i j)
      · have d := d3 (fun z => by
          have := congrArg List.length z
          rw [List.length_map, List.length_range] at this
          simp at this
          omega)
        obtain ⟨p, rfl, nb, hp⟩ := d.frI
        refine q' _ _ (Kp.same s3) ⟨p, rfl, fun z => nb ?_, hp⟩
        rw [z]
        exact nD2
    · rintro H2 acc k2 eD hla ha
      rw [xl] at hla
      have s2 := no_same k2
      refine ⟨D, acc, (List.range n).map (rwS n R), 127, 770, rfl, .of eD, ⟨by rw [hla, List.length_map, List.length_range], fun i v q e1 e2 => ?_⟩, fun qq hq => ?_, fun i => ?_, by omega, fun v3 H3 s3 f3 => q v3 H3 ((s1.trans s2).trans s3) f3⟩
      · have hi : i < n := by
          have := (List.getElem?_eq_some_iff.mp e1).1
          omega
        rw [List.getElem?_map, List.getElem?_range hi] at e2
        obtain rfl := Option.some.inj e2
        obtain ⟨p, rfl, _, hp⟩ := ha i v e1
        exact ⟨p, rfl, .of hp⟩
      · obtain ⟨i, _, rfl⟩ := List.mem_map.mp hq
        exact rw_sz bn n6 i
      · have := sum_sz (z := 127) (l := ((List.range n).map (rwS n R)).take i) fun q hq => by
          obtain ⟨j, _, rfl⟩ := List.mem_map.mp (List.mem_of_mem_take hq)
          exact rw_sz bn n6 j
        refine this.mono ?_
        have h1 : (((List.range n).map (rwS n R)).take i).length ≤ n := by
          rw [List.length_take, List.length_map, List.length_range]
          omega
        omega
def spTAB (K : PySem.W.Frag) : Sp := fun vs H Q _ => ∃ (W : Addr → Prop) (v : V) (k : Nat) (R : Nat → Nat → Rat) (one two : Nat), vs = [v, .int (one : Nat), .int (two : Nat)] ∧ Dq W H v (tabD (tabF (k + 1) R)) ∧ k + 1 ≤ 6 ∧ Bnds (k + 1) R ∧ one < k + 1 ∧ two < k + 1 ∧ one ≠ two ∧
  ∀ v' H', Same H H' → FrR K H' v' (allW (k + 1) R * dst k R one two) → Q v' H'
theorem ok_tab {f : Addr} {fd : FuncData} (F : Fun K "there_and_back" "there_and_back" sthere_and_back f fd) (M : Mb mg) (Dcheck_ends : Df P w K mg base 8 "check_ends" ["weights", "one", "two"] spChE) (Din_all : Df P w K mg base 8 "in_all" ["weights"] (spIA K)) (Dapart : Df P w K mg base 8 "apart" ["weights", "one", "two"] (spApart K)) (Dtimes : Df P w K mg base 2 "times" ["one", "other"] (spTimes K)) :
    FnOk P w K mg base CX0 9 f fd ["weights", "one", "two"] (spTAB K) := by
  refine F.ok cthere_and_back (fun vs H Q E h => ?_) (fun cdv A outer s H vs Q E hr h => ?_)
  · obtain ⟨_, v, k, R, one, two, rfl, _⟩ := h
    rfl
  · obtain ⟨W, v, k, R, one, two, rfl, hd, n6, bn, h1, h2, ne, q⟩ := h
    refine ⟨_, (pss_cons (ps_expr (pe_call Dcheck_ends.G (hr.mono (by first | decide | omega)) rfl Dcheck_ends.g Dcheck_ends.kp Dcheck_ends.b .nil pass0 (pa_cons (pv 0) (pa_cons (pv 1) (pa_cons (pv 2) pa_nil)))))
 (pss_one (ps_ret (pe_call Dtimes.G (hr.mono (by first | decide | omega)) rfl Dtimes.g Dtimes.kp Dtimes.b .nil pass0 (pa_cons (pe_call Din_all.G (hr.mono (by first | decide | omega)) rfl Din_all.g Din_all.kp Din_all.b .nil pass0 (pa_cons (pv 0) pa_nil)) (pa_cons (pe_call Dapart.G (hr.mono (by first | decide | omega)) rfl Dapart.g Dapart.kp Dapart.b .nil pass0 (pa_cons (pv 0) (pa_cons (pv 1) (pa_cons (pv 2) pa_nil)))) pa_nil)))))), ?_⟩
    refine ⟨_, rfl, _, rfl, _, rfl, W, v, k + 1, R, one, two, rfl, hd, by omega, n6, bn, h1, h2, ne, fun H1 s1 => ?_⟩
    refine ⟨_, rfl, W, v, k + 1, R, rfl, hd.keep (Kp.same s1), by omega, n6, bn, fun v2 H2 s2 f2 => ?_⟩
    have s12 := s1.trans s2
    refine ⟨_, rfl, _, rfl, _, rfl, W, v, k, R, one, two, rfl, hd.keep (Kp.same s12), n6, bn, h1, h2, fun v3 H3 s3 f3 => ?_⟩
    have f3' : FrR K H3 v3 (dst k R one two) := f3
    refine ⟨v2, v3, _, _, 770, 510, rfl, f2.same s3, f3', all_sz bn n6, dst_sz bn n6 h2 h1, by omega, fun p np => ?_⟩
    exact q _ _ ((s12.trans s3).trans (same_new np)) ⟨p, rfl, .of upd_same⟩
end
end Kx
set_option exponentiation.threshold 10000
/-! The law (k23). -/
namespace Kx
open PySem PySem.Spec PyProof.Rows L2 Bw
abbrev s_law_right : Stmt := topS 59
abbrev n_law_right : List Str := ["well", "bonds", "many", "whole", "sums", "row", "here", "there", "told", "going", "turn", "top", "low", "both"]
theorem c_law_right : FnScope n_law_right ["well"] (defScope s_law_right) :=
  ⟨rfl, rfl, rfl, by decide +kernel, rfl, by decide +kernel, by decide +kernel⟩

abbrev slaw : Stmt := topS 60
abbrev nlaw : List Str := ["script", "well", "turn"]
theorem claw : FnScope nlaw ["script"] (defScope slaw) :=
  ⟨rfl, rfl, rfl, by decide +kernel, rfl, by decide +kernel, by decide +kernel⟩

theorem fr_rs {q : Rat} (h : Bq.Sz 1900 q) : PyData.showableAll [.int q.num, .int (q.den : Int)] = true ∧ (PyData.tuple [.int q.num, .int (q.den : Int)]).shown.length ≤ sizeLine ∧ (PyData.tuple [.int q.num, .int (q.den : Int)]).depth ≤ 60 := by
  have r := fr_ok h
  unfold frD at r
  refine ⟨by simpa only [PyData.showable] using r.1, ?_, Nat.le_trans r.2.2 (by decide)⟩
  rw [sizeLine_eq]
  have := r.2.1
  omega
theorem frA_kp2 {w : Addr} {H H' : Hp} {v : V} {q : Rat} {l : Addr} (k : Kp (At w) H H') (W : WellAt w l H) (h : FrA H v q) : FrA H' v q := by
  obtain ⟨p, rfl, hp⟩ := h
  refine ⟨p, rfl, k _ _ (fun z => ?_) hp⟩
  obtain ⟨_, _, _, e9, _⟩ := W
  rw [show p = w from z, e9] at hp
  cases hp
def tri : Nat → Nat
  | 0 => 0
  | i + 1 => tri i + i
theorem tri_le : ∀ i, i ≤ 5 → tri i ≤ 10
  | 0, _ => by decide
  | 1, _ => by decide
  | 2, _ => by decide
  | 3, _ => by decide
  | 4, _ => by decide
  | 5, _ => by decide
  | i + 6, h => by omega
section
variable {P : Program} {w : World} {K : PySem.W.Frag} {mg : Str → Option Value} {base : Heap}
def spRight : Sp := fun vs H Q _ => ∃ w l, vs = [.ref w] ∧ WellAt w l H ∧ ∀ H' l', WellAt w l' H' → Q (.bl true) H'
theorem ok_right {f : Addr} {fd : FuncData} (F : Fun K "_law_right" "_law_right" s_law_right f fd) (M : Mb mg) (Dlaw_of : Df P w K mg base 2 "_law_of" ["well", "some"] (spOfL K)) (Dlaw_bonds : Df P w K mg base 3 "_law_bonds" ["well", "many"] spBonds) (Dlaw_walk_by : Df P w K mg base 5 "_law_walk_by" ["bonds"] spWalkBy)
    (Dlaw_total : Df P w K mg base 3 "_law_total" ["parts"] (spSum K (SqL K))) (DtotT : Df P w K mg base 3 "_law_total" ["parts"] (spSum K (SqT K)))
    (Dlaw_far : Df P w K mg base 5 "_law_far" ["bonds", "top", "low"] (spFar K)) (Dlaw_plus : Df P w K mg base 2 "_law_plus" ["here", "there"] (spPlus K)) (Dlaw_times : Df P w K mg base 2 "_law_times" ["here", "there"] (spTimes K)) (Dlaw_ends : Df P w K mg base 2 "_law_ends" ["well", "many"] spEnds) (Dlaw_mean_steps : Df P w K mg base 4 "_law_mean_steps" ["going", "top", "low"] (spMean K))
    (Dapart : Df P w K mg base 8 "apart" ["weights", "one", "two"] (spApart K)) (Din_all : Df P w K mg base 8 "in_all" ["weights"] (spIA K)) (Dthere_and_back : Df P w K mg base 9 "there_and_back" ["weights", "one", "two"] (spTAB K))
    (Nin_all_0 : ∀ (s : Shared) (ws : List Value), K.In s.heap → ws.length = ["weights"].length → BindsTo s Din_all.fd ⟨[], (["weights"] : List Str).zip ws⟩ ((["weights"] : List Str).zip ([0].map fun i => ws.getD i .none)))
    (Nthere_and_back_210 : ∀ (s : Shared) (ws : List Value), K.In s.heap → ws.length = ["two", "one", "weights"].length → BindsTo s Dthere_and_back.fd ⟨[], (["two", "one", "weights"] : List Str).zip ws⟩ ((["weights", "one", "two"] : List Str).zip ([2, 1, 0].map fun i => ws.getD i .none))) :
    FnG P w K mg base 10 f fd ["well"] spRight := by
  refine okG F c_law_right (fun vs H Q E h => ?_) (fun cdv A outer s H vs Q E hG hr h => ?_)
  · obtain ⟨w, l, rfl, _⟩ := h
    rfl
  · obtain ⟨w, l, rfl, hW, q⟩ := h
    have hu := hr.units
    refine ⟨_, (pss_cons (ps_set (i := 1) c_law_right.nd rfl (.inl rfl) (pe_call Dlaw_bonds.G (hr.mono (by first | decide | omega)) rfl Dlaw_bonds.g Dlaw_bonds.kp Dlaw_bonds.b .nil pass0 (pa_cons (pv 0) (pa_cons (pe_call Dlaw_of.G (hr.mono (by first | decide | omega)) rfl Dlaw_of.g Dlaw_of.kp Dlaw_of.b .nil pass0 (pa_cons (pv 0) (pa_cons (pe_tup (pa_cons pe_int (pa_cons pe_int (pa_cons pe_int (pa_cons pe_int (pa_cons pe_int (pa_cons pe_int (pa_cons pe_int (pa_cons pe_int pa_nil))))))))) pa_nil))) pa_nil))))
 (pss_cons (ps_par3 (i := 2) (j := 3) (l := 4) (by rfl) c_law_right.nd rfl rfl rfl (by decide) (by decide) (by decide) rfl rfl rfl (pa_cons (pe_callB call_len_seq (by rfl) M.len (by decide +kernel) (pa_cons (pv 1) pa_nil)) (pa_cons (pe_call Dlaw_total.G (hr.mono (by first | decide | omega)) rfl Dlaw_total.g Dlaw_total.kp Dlaw_total.b .nil pass0 (pa_cons (pe_lc (own := [("row", 5)]) rfl c_law_right.nd (pi_tup (pv 1)) (blkOk_by (own := [("row", 5)]) (N := n_law_right) (sc := defScope s_law_right) (by decide +kernel)) (fun _ _ _ _ _ => (pg_name (i := 5) c_law_right.nd rfl (.inl rfl))) (fun _ _ _ _ _ => pts_nil) (fun _ _ _ _ _ => (pe_call DtotT.G (hr.mono (by first | decide | omega)) rfl DtotT.g DtotT.kp DtotT.b .nil pass0 (pa_cons (pv 5) pa_nil)))) pa_nil)) (pa_cons (pe_tup (pa_cons pe_int (pa_cons pe_int pa_nil))) pa_nil))) (by rfl))
 (pss_cons (ps_if (pt_cmpR op_ne (pe_callB (call_reprP hG hr) (by rfl) M.repr (by decide +kernel) (pa_cons (pe_lst (pa_cons (pe_call Din_all.G (hr.mono (by first | decide | omega)) rfl Din_all.g Din_all.kp Din_all.b .nil pass0 (pa_cons (pv 1) pa_nil)) (pa_cons (Bw.pe_callPm [0] ["weights"] (by exact Din_all.G) (hr.mono (by first | decide | omega)) rfl Din_all.g Din_all.kp Nin_all_0 (pk_cons (pv 1) pk_nil)) pa_nil))) pa_nil)) (pe_callB (call_reprP hG hr) (by rfl) M.repr (by decide +kernel) (pa_cons (pe_lst (pa_cons (pv 3) (pa_cons (pv 3) pa_nil))) pa_nil)) (nomark _))
 (pss_one (ps_ret pe_bl))
 pss_nil)
 (pss_cons (ps_for PassesOwn.never rfl (pi_range1 (by rfl) M.range (pa_cons (pv 2) pa_nil)) (pg_name (i := 6) c_law_right.nd rfl (.inl rfl))
 (pss_one (ps_for PassesOwn.never rfl (pi_range1 (by rfl) M.range (pa_cons (pv 6) pa_nil)) (pg_name (i := 7) c_law_right.nd rfl (.inl rfl))
 (pss_cons (ps_set (i := 8) c_law_right.nd rfl (.inl rfl) (pe_call Dapart.G (hr.mono (by first | decide | omega)) rfl Dapart.g Dapart.kp Dapart.b .nil pass0 (pa_cons (pv 1) (pa_cons (pv 6) (pa_cons (pv 7) pa_nil)))))
 (pss_cons (ps_if (pt_cmpR op_ne (pe_callB (call_reprP hG hr) (by rfl) M.repr (by decide +kernel) (pa_cons (pv 8) pa_nil)) (pe_callB (call_reprP hG hr) (by rfl) M.repr (by decide +kernel) (pa_cons (pe_call Dlaw_far.G (hr.mono (by first | decide | omega)) rfl Dlaw_far.g Dlaw_far.kp Dlaw_far.b .nil pass0 (pa_cons (pv 1) (pa_cons (pv 6) (pa_cons (pv 7) pa_nil)))) pa_nil)) (nomark _))
 (pss_one (ps_ret pe_bl))
 pss_nil)
 (pss_one (ps_set (i := 4) c_law_right.nd rfl (.inl rfl) (pe_call Dlaw_plus.G (hr.mono (by first | decide | omega)) rfl Dlaw_plus.g Dlaw_plus.kp Dlaw_plus.b .nil pass0 (pa_cons (pv 4) (pa_cons (pe_call Dlaw_times.G (hr.mono (by first | decide | omega)) rfl Dlaw_times.g Dlaw_times.kp Dlaw_times.b .nil pass0 (pa_cons (pe_ix ix_tup (pe_ix ix_tup (pv 1) (pv 6) (fun _ _ => rfl)) (pv 7) (fun _ _ => rfl)) (pa_cons (pv 8) pa_nil))) pa_nil))))))))))
 (pss_cons (ps_if (pt_cmpR (op_neD hu) (pv 4) (pe_tup (pa_cons (pe_op op_sub (pv 2) pe_int) (pa_cons pe_int pa_nil))) (nomark _))
 (pss_one (ps_ret pe_bl))
 pss_nil)
 (pss_cons (ps_if (pt_cmpR op_eq (pv 2) pe_int (nomark _))
 (pss_one (ps_ret pe_bl))
 pss_nil)
 (pss_cons (ps_set (i := 9) c_law_right.nd rfl (.inl rfl) (pe_call Dlaw_walk_by.G (hr.mono (by first | decide | omega)) rfl Dlaw_walk_by.g Dlaw_walk_by.kp Dlaw_walk_by.b .nil pass0 (pa_cons (pv 1) pa_nil)))
 (pss_cons (ps_for PassesOwn.never rfl (pi_range1 (by rfl) M.range (pa_cons pe_int pa_nil)) (pg_name (i := 10) c_law_right.nd rfl (.inl rfl))
 (pss_cons (ps_asg (pe_call Dlaw_ends.G (hr.mono (by first | decide | omega)) rfl Dlaw_ends.g Dlaw_ends.kp Dlaw_ends.b .nil pass0 (pa_cons (pv 0) (pa_cons (pv 2) pa_nil))) (pg_tup rfl (pgs_cons (pg_name (i := 11) c_law_right.nd rfl (.inl rfl)) (pgs_cons (pg_name (i := 12) c_law_right.nd rfl (.inl rfl)) pgs_nil))))
 (pss_cons (ps_set (i := 13) c_law_right.nd rfl (.inl rfl) (pe_call Dlaw_plus.G (hr.mono (by first | decide | omega)) rfl Dlaw_plus.g Dlaw_plus.kp Dlaw_plus.b .nil pass0 (pa_cons (pe_call Dlaw_mean_steps.G (hr.mono (by first | decide | omega)) rfl Dlaw_mean_steps.g Dlaw_mean_steps.kp Dlaw_mean_steps.b .nil pass0 (pa_cons (pv 9) (pa_cons (pv 11) (pa_cons (pv 12) pa_nil)))) (pa_cons (pe_call Dlaw_mean_steps.G (hr.mono (by first | decide | omega)) rfl Dlaw_mean_steps.g Dlaw_mean_steps.kp Dlaw_mean_steps.b .nil pass0 (pa_cons (pv 9) (pa_cons (pv 12) (pa_cons (pv 11) pa_nil)))) pa_nil))))
 (pss_cons (ps_set (i := 8) c_law_right.nd rfl (.inl rfl) (pe_lst (pa_cons (pe_call Dthere_and_back.G (hr.mono (by first | decide | omega)) rfl Dthere_and_back.g Dthere_and_back.kp Dthere_and_back.b .nil pass0 (pa_cons (pv 1) (pa_cons (pv 11) (pa_cons (pv 12) pa_nil)))) (pa_cons (Bw.pe_callPm [2, 1, 0] ["two", "one", "weights"] (by exact Dthere_and_back.G) (hr.mono (by first | decide | omega)) rfl Dthere_and_back.g Dthere_and_back.kp Nthere_and_back_210 (pk_cons (pv 11) (pk_cons (pv 12) (pk_cons (pv 1) pk_nil)))) pa_nil))))
 (pss_one (ps_if (PW.pt (pw_or (pt_cmpR op_ne (pe_callB (call_reprP hG hr) (by rfl) M.repr (by decide +kernel) (pa_cons (pv 8) pa_nil)) (pe_callB (call_reprP hG hr) (by rfl) M.repr (by decide +kernel) (pa_cons (pe_lst (pa_cons (pv 13) (pa_cons (pv 13) pa_nil))) pa_nil)) (nomark _)) (pw_or1 (pt_cmpR (op_neD hu) (pv 13) (pe_call Dlaw_times.G (hr.mono (by first | decide | omega)) rfl Dlaw_times.g Dlaw_times.kp Dlaw_times.b .nil pass0 (pa_cons (pv 3) (pa_cons (pe_call Dlaw_far.G (hr.mono (by first | decide | omega)) rfl Dlaw_far.g Dlaw_far.kp Dlaw_far.b .nil pass0 (pa_cons (pv 1) (pa_cons (pv 11) (pa_cons (pv 12) pa_nil)))) pa_nil))) (nomark _)))))
 (pss_one (ps_ret pe_bl))
 pss_nil))))))
 (pss_one (ps_ret pe_bl)))))))))), ?_⟩
    refine ⟨_, rfl, _, rfl, sz63 (by show 8 ≤ 1000; decide), fun t nt => ⟨w, l, t, _, rfl, hW.new nt, (hW.ne nt).1, .inr (.of upd_same), (by show 0 < 8; decide), (by show 8 < 1073741824; decide), fun H1 i v l1 e1 k1 W1 hl1 => ?_⟩⟩
    obtain ⟨k, k5, rfl⟩ : ∃ k : Nat, k ≤ 5 ∧ v = .int ((k + 1 : Nat) : Nat) := by
      match i, e1 with
      | 0, e => exact ⟨2, by omega, (Option.some.inj e).symm⟩
      | 1, e => exact ⟨3, by omega, (Option.some.inj e).symm⟩
      | 2, e => exact ⟨2, by omega, (Option.some.inj e).symm⟩
      | 3, e => exact ⟨1, by omega, (Option.some.inj e).symm⟩
      | 4, e => exact ⟨3, by omega, (Option.some.inj e).symm⟩
      | 5, e => exact ⟨4, by omega, (Option.some.inj e).symm⟩
      | 6, e => exact ⟨0, by omega, (Option.some.inj e).symm⟩
      | 7, e => exact ⟨5, by omega, (Option.some.inj e).symm⟩
      | i + 8, e => simp at e
    clear k1 hl1 e1 hW nt t
    refine ⟨w, l1, k + 1, rfl, by omega, by omega, W1, fun H2 l2 vb R k2 W2 hl2 dg bn => ?_⟩
    clear k2 hl2 W1 l1 H1
    have n6 : k + 1 ≤ 6 := by omega
    have dgt := dg
    obtain ⟨ga, gxs, rfl, nga, ega, egl⟩ := dgt.tupI
    have gl : gxs.length = k + 1 := by
      have := egl.length
      unfold tabF at this
      simpa using this
    unfold tabF at egl
    refine ⟨_, rfl, ga, gxs, rfl, .inr (.of ega), ?_⟩
    rw [gl]
    -- whole
    refine ⟨_, rfl, ga, rfl, ⟨gxs, .of ega⟩, fun D nD => ?_⟩
    refine lc_rel (walk_tup (K := K) (a := ga) (xs := gxs)) No (fun H' i y => ∃ p, y = .ref p ∧ p ≠ D ∧ H' p = some (.tup [.int (rwS (k + 1) R i).num, .int (rwS (k + 1) R i).den])) (fun H H' i v k r => ?_) nD (fun _ z => z.elim) (by omega) (fun H' k' => .of (no_same k' _ _ ega)) ?_ ?_
    · obtain ⟨p, rfl, g1, e⟩ := r
      exact ⟨p, rfl, g1, k _ _ (fun z => z.elim id g1) e⟩
    · rintro i x H3 _ Q' hi k3 nD3 ⟨rfl, hx⟩ q'
      have s3 := no_same k3
      obtain ⟨hin, dx⟩ := tab_at egl hx
      obtain ⟨c, zs, rfl, nc, ec, ez⟩ := (dx.keep (Kp.same s3)).tupI
      refine ⟨rfl, _, rfl, c, zs, (List.range (k + 1)).map (R i), 20, rfl, .of ec, dq_row ez, fun p hp => ?_, by rw [List.length_map, List.length_range]; omega, fun v4 H4 s4 d4 => ?_⟩
      · obtain ⟨j, hj, rfl⟩ := List.mem_map.mp hp
        exact wt_sz (bn.wt i j)
      · obtain ⟨p, rfl, nb, hp⟩ := d4.frI
        refine q' _ _ (Kp.same s4) ⟨p, rfl, fun z => nb ?_, hp⟩
        rw [z]
        exact nD3
    rintro H3 acc k3 eD hla hacc
    rw [gl] at hla
    have s3 := no_same k3
    refine ⟨D, acc, (List.range (k + 1)).map (rwS (k + 1) R), 127, rfl, .of eD, ⟨by rw [hla, List.length_map, List.length_range], fun i v q e1 e2 => ?_⟩, fun qq hq => ?_, by rw [List.length_map, List.length_range]; omega, fun vw H4 s4 d4 => ?_⟩
    · have hi : i < k + 1 := by
        have := (List.getElem?_eq_some_iff.mp e1).1
        omega
      rw [List.getElem?_map, List.getElem?_range hi] at e2
      obtain rfl := Option.some.inj e2
      obtain ⟨p, rfl, _, hp⟩ := hacc i v e1
      exact ⟨p, rfl, .of hp⟩
    · obtain ⟨i, _, rfl⟩ := List.mem_map.mp hq
      exact rw_sz bn n6 i
    have fw4 : FrA H4 vw (allW (k + 1) R) := dq_frA d4
    have s24 := s3.trans s4
    clear d4 hacc k3 eD nD s3 s4 hla
    have zA := all_sz bn n6
    refine ⟨sz63 (by show 2 ≤ 1000; decide), fun p0 np0 => ⟨_, _, _, rfl, ?_⟩⟩
    have s5 : Same H4 (upd H4 p0 (.tup [.int 0, .int 1])) := same_new np0
    have f0 : FrA (upd H4 p0 (.tup [.int 0, .int 1])) (.ref p0) 0 := ⟨p0, rfl, upd_same⟩
    have fw5 := fw4.same s5
    have s25 := s24.trans s5
    generalize upd H4 p0 (.tup [.int 0, .int 1]) = H5 at s5 f0 fw5 s25 ⊢
    refine ⟨_, rfl, At w, .ref ga, k + 1, R, rfl, dg.keep (Kp.same s25), by omega, n6, bn, fun u1 H6 s6 f6 => ?_⟩
    refine ⟨_, rfl, rfl, At w, .ref ga, k + 1, R, rfl, dg.keep (Kp.same (s25.trans s6)), by omega, n6, bn, fun u2 H7 s7 f7 => ?_⟩
    refine ⟨sz63 (by show 2 ≤ 1000; decide), fun L nL => ?_⟩
    have s8 : Same H7 (upd H7 L (.lst [u1, u2])) := same_new nL
    have e8 : (upd H7 L (.lst [u1, u2])) L = some (.lst [u1, u2]) := upd_same
    generalize upd H7 L (.lst [u1, u2]) = H8 at s8 e8 ⊢
    have rA := fr_ok (zA.mono (show 770 ≤ 1900 by decide))
    have R1 := repr_parts (ds := [frD (allW (k + 1) R), frD (allW (k + 1) R)]) (n := 100000) (fun d hd => by
      have e : d = frD (allW (k + 1) R) := by simpa using hd
      rw [e]
      exact ⟨rA.1, by omega, by omega⟩) (by decide) (by show 2 ≤ 100; decide)
    have dT1 : DpAll K H8 [u1, u2] [frD (allW (k + 1) R), frD (allW (k + 1) R)] := .cons (fr_dp (f6.same (s7.trans s8))) (.cons (fr_dp (f7.same s8)) .nil)
    refine ⟨_, _, rfl, R1.1, .inl ⟨.lst (.of e8) dT1, R1.2.1, R1.2.2, ?_⟩⟩
    refine ⟨_, rfl, _, rfl, sz63 (by show 2 ≤ 1000; decide), fun L2 nL2 => ?_⟩
    have s9 : Same H8 (upd H8 L2 (.lst [vw, vw])) := same_new nL2
    have e9 : (upd H8 L2 (.lst [vw, vw])) L2 = some (.lst [vw, vw]) := upd_same
    generalize upd H8 L2 (.lst [vw, vw]) = H9 at s9 e9 ⊢
    have s59 := (s6.trans s7).trans (s8.trans s9)
    have fw9 := fw5.same s59
    have f09 := f0.same s59
    have dT2 : DpAll K H9 [vw, vw] [frD (allW (k + 1) R), frD (allW (k + 1) R)] := .cons (fr_dp fw9.fr) (.cons (fr_dp fw9.fr) .nil)
    refine ⟨_, _, rfl, R1.1, .inl ⟨.lst (.of e9) dT2, R1.2.1, R1.2.2, ?_⟩⟩
    refine ⟨rfl, _, rfl, ifF (by simp) ?_⟩
    have s29 := s25.trans s59
    clear dT1 dT2 R1 e8 e9 f6 f7 s6 s7 s8 s9 s59 fw5 f0 s5 s25 s24 fw4 nL nL2 np0 rA
    refine ⟨_, rfl, _, rfl, by omega, by omega, ?_⟩
    refine for_range (lo := 0) (n := k + 1) (fun i σ H' => ∃ vs y6 y7 y8, σ = [some (.ref w), some (.ref ga), some (.int ((k + 1 : Nat) : Nat)), some vw, some vs, none, y6, y7, y8, none, none, none, none, none] ∧ Same H9 H' ∧ FrA H' vs (lS i fun a b => R a b * dst k R a b) ∧ Bq.Sz (1 + tri i * 531) (lS i fun a b => R a b * dst k R a b))
      ⟨_, _, _, _, rfl, .refl _, f09, Bq.Sz.zero.mono (by decide)⟩ ?_ ?_
    · rintro i σ H10 hi ⟨vs, y6, y7, y8, rfl, s10, fs, zs⟩
      have e0 : (0 : Int) + ((i : Nat) : Int) = ((i : Nat) : Int) := by omega
      rw [e0]
      have ti := tri_le i (by omega)
      refine ⟨_, rfl, _, rfl, by omega, by omega, ?_⟩
      refine for_range (lo := 0) (n := i) (fun j σ H' => ∃ vs y7 y8, σ = [some (.ref w), some (.ref ga), some (.int ((k + 1 : Nat) : Nat)), some vw, some vs, none, some (.int (i : Nat)), y7, y8, none, none, none, none, none] ∧ Same H9 H' ∧ FrA H' vs ((lS i fun a b => R a b * dst k R a b) + s1 j fun b => R i b * dst k R i b) ∧ Bq.Sz (1 + (tri i + j) * 531) ((lS i fun a b => R a b * dst k R a b) + s1 j fun b => R i b * dst k R i b))
        ⟨_, _, _, rfl, s10, by rw [s1_zero, Rat.add_zero]; exact fs, by rw [s1_zero, Rat.add_zero]; exact zs⟩ ?_ ?_
      · clear fs zs s10
        rintro j σ H11 hj ⟨vs, y7, y8, rfl, s11, fs, zs⟩
        have g0 : (0 : Int) + ((j : Nat) : Int) = ((j : Nat) : Int) := by omega
        rw [g0]
        have jn : j < k + 1 := by omega
        have zd := dst_sz (R := R) bn n6 jn hi
        have rs := fr_rs (zd.mono (show 510 ≤ 1900 by decide))
        have s211 := s29.trans s11
        refine ⟨_, rfl, _, rfl, _, rfl, At w, .ref ga, k, R, i, j, rfl, dg.keep (Kp.same s211), n6, bn, hi, jn, fun v12 H12 s12 f12 => ?_⟩
        have f12' : FrR K H12 v12 (dst k R i j) := f12
        refine ⟨_, rfl, _, _, rfl, rs.1, .inr ⟨fr_dp f12', rs.2.1, rs.2.2, ?_⟩⟩
        have s212 := s211.trans s12
        refine ⟨_, rfl, _, rfl, _, rfl, At w, .ref ga, k + 1, R, i, j, rfl, dg.keep (Kp.same s212), fun _ => lo_ok6 bn n6 hi jn, fun v13 H13 s13 d13 => ?_⟩
        rw [dst_far bn n6 hi jn] at d13
        refine ⟨_, _, rfl, rs.1, .inr ⟨fr_dp (dq_frA d13).fr, rs.2.1, rs.2.2, ?_⟩⟩
        refine ⟨rfl, _, rfl, ifF (by simp) ?_⟩
        have s213 := s212.trans s13
        have s1113 := s12.trans s13
        have ex : gxs[i]? = some (gxs[i]'(by omega)) := List.getElem?_eq_getElem (by omega)
        obtain ⟨_, dx⟩ := tab_at egl ex
        obtain ⟨c, zs', ec1, nc, ec, ez⟩ := (dx.keep (Kp.same s213)).tupI
        rw [ec1] at ex
        have zl : zs'.length = k + 1 := by
          have := ez.length
          simpa using this
        have ev : zs'[j]? = some (zs'[j]'(by omega)) := List.getElem?_eq_getElem (by omega)
        have fv := (row_at ez ev).2.fr (K := K)
        refine ⟨_, rfl, _, rfl, _, rfl, ga, gxs, (i : Int), _, rfl, rfl, .of (s213 _ _ ega), atI_nat ex, _, rfl, c, zs', (j : Int), _, rfl, rfl, .of ec, atI_nat ev, _, rfl, ?_⟩
        refine ⟨_, v12, _, _, 20, 510, rfl, fv, f12'.same s13, wt_sz (bn.wt i j), zd, by omega, fun p np => ?_⟩
        have zt := (wt_sz (bn.wt i j)).mul zd
        have es : ((lS i fun a b => R a b * dst k R a b) + s1 j fun b => R i b * dst k R i b) + R i j * dst k R i j = (lS i fun a b => R a b * dst k R a b) + s1 (j + 1) fun b => R i b * dst k R i b := by
          rw [s1_succ, Rat.add_assoc]
        generalize R i j * dst k R i j = q2 at zt es ⊢
        have s14 : Same H13 (upd H13 p (.tup [.int q2.num, .int q2.den])) := same_new np
        have f14 : FrA (upd H13 p (.tup [.int q2.num, .int q2.den])) (.ref p) q2 := ⟨p, rfl, upd_same⟩
        generalize upd H13 p (.tup [.int q2.num, .int q2.den]) = H14 at s14 f14 ⊢
        have zn := zs.add zt
        rw [es] at zn
        refine ⟨vs, .ref p, _, q2, _, 20 + 510, rfl, (fs.same (s1113.trans s14)).fr, f14.fr, zs, zt, by omega, fun p2 np2 => ?_⟩
        rw [es]
        exact ⟨_, _, _, rfl, ((s11.trans s1113).trans s14).trans (same_new np2), ⟨p2, rfl, upd_same⟩, zn.mono (by omega)⟩
      · rintro σ H11 ⟨vs, y7, y8, rfl, s11, fs, zs⟩
        refine ⟨vs, _, _, _, rfl, s11, ?_, ?_⟩
        · rw [lS_succ]
          exact fs
        · rw [lS_succ]
          exact zs
    · rintro σ H10 ⟨vs, y6, y7, y8, rfl, s10, fs, _⟩
      rw [foster bn n6] at fs
      refine ⟨_, rfl, _, rfl, _, _, rfl, rfl, sz63 (by show 2 ≤ 1000; decide), fun p np => ?_⟩
      have s11 : Same H10 (upd H10 p (.tup [.int (((k + 1 : Nat) : Int) - 1), .int 1])) := same_new np
      have f11 : FrA (upd H10 p (.tup [.int (((k + 1 : Nat) : Int) - 1), .int 1])) (.ref p) ((k : Nat) : Rat) := ⟨p, rfl, by
        rw [upd_same, Rat.num_natCast, Rat.den_natCast, show ((k + 1 : Nat) : Int) - 1 = (k : Int) by omega]
        rfl⟩
      have fs11 := fs.same s11
      refine ⟨frD _, frD _, fr_dp fs11.fr, fr_dp f11.fr, fr_shaped _, fr_shaped _, ?_⟩
      rw [fr_eqv, decide_eq_true rfl]
      generalize upd H10 p (.tup [.int (((k + 1 : Nat) : Int) - 1), .int 1]) = H11 at s11 ⊢
      refine ⟨_, rfl, ifF (by simp) ?_⟩
      have s911 := s10.trans s11
      have s211 := s29.trans s911
      have fw11 := fw9.same s911
      have dg11 := dg.keep (Kp.same s211)
      have W11 := well_sameS W2 s211
      refine ⟨_, rfl, rfl, _, rfl, ite2 (fun c => q H11 l2 W11) (fun c => ?_)⟩
      have k1 : 1 ≤ k := by
        have : ¬ (V.int ((k + 1 : Nat) : Nat) = V.int 1) := fun z => c (decide_eq_true z)
        by_cases z : k = 0
        · exact absurd (by rw [z]; rfl) this
        · omega
      refine ⟨_, rfl, At w, .ref ga, k + 1, R, rfl, dg11, by omega, n6, bn, fun vg H12 s12 dgo => ?_⟩
      rw [wk_tab bn (by omega) n6] at dgo
      have dgo12 : Dq (At w) H12 vg (tabD (tabF (k + 1) (wkQ (k + 1) R))) := dgo.weak fun b z e => by
        obtain ⟨_, _, _, e9, _⟩ := W11
        rw [show b = w from z, e9] at e
        cases e
      have dg12 := dg11.keep (Kp.same s12)
      have W12 := well_sameS W11 s12
      have fw12 := fw11.same s12
      clear dgo dg11 W11 fw11 s911 s211 fs fs11 f11 s11 s10 fw9 f09 s29
      refine ⟨2, rfl, by decide, by decide, for_range (lo := 0) (n := 2) (fun i σ H' => ∃ vs y6 y7 y8 y10 y11 y12 y13 l', σ = [some (.ref w), some (.ref ga), some (.int ((k + 1 : Nat) : Nat)), some vw, some vs, none, y6, y7, y8, some vg, y10, y11, y12, y13] ∧ WellAt w l' H' ∧ Dq (At w) H' (.ref ga) (tabD (tabF (k + 1) R)) ∧ Dq (At w) H' vg (tabD (tabF (k + 1) (wkQ (k + 1) R))) ∧ FrA H' vw (allW (k + 1) R))
        ⟨_, _, _, _, _, _, _, _, _, rfl, W12, dg12, dgo12, fw12⟩ ?_ ?_⟩
      · clear W12 dg12 dgo12 fw12
        rintro i σ H13 hi ⟨vs, y6, y7, y8, y10, y11, y12, y13, l13, rfl, W13, dg13, dgo13, fw13⟩
        refine ⟨_, rfl, _, rfl, w, l13, k + 1, rfl, by omega, n6, W13, fun H14 l14 p top low h1 h2 ne kk W14 _ pw ep => ⟨p, _, rfl, .of ep, rfl, _, _, rfl, _, _, rfl, rfl, ?_⟩⟩
        have dg14 := dg13.keep kk
        have dgo14 := dgo13.keep kk
        have fw14 := frA_kp2 kk W13 fw13
        clear dg13 dgo13 fw13 W13 kk ep pw
        refine ⟨_, rfl, _, rfl, _, rfl, At w, vg, k, R, top, low, rfl, dgo14, n6, bn, h1, h2, ne, fun m1 H15 s15 fm1 zm1 => ?_⟩
        refine ⟨_, rfl, _, rfl, _, rfl, At w, vg, k, R, low, top, rfl, dgo14.keep (Kp.same s15), n6, bn, h2, h1, fun z => ne z.symm, fun m2 H16 s16 fm2 zm2 => ?_⟩
        refine ⟨m1, m2, _, _, 1580, 1580, rfl, (fm1.same s16).fr, fm2.fr, zm1, zm2, by omega, fun pb npb => ?_⟩
        have eb : stpM k R low top + stpM k R top low = allW (k + 1) R * dst k R top low := stp_both bn n6 h1 h2 ne
        rw [eb]
        have zd := dst_sz (R := R) bn n6 h2 h1
        have zb := zA.mul zd
        have ds := dst_sym bn n6 h1 h2
        generalize hbb : allW (k + 1) R * dst k R top low = bb at zb ⊢
        have s17 : Same H16 (upd H16 pb (.tup [.int bb.num, .int bb.den])) := same_new npb
        have fb : FrA (upd H16 pb (.tup [.int bb.num, .int bb.den])) (.ref pb) bb := ⟨pb, rfl, upd_same⟩
        generalize upd H16 pb (.tup [.int bb.num, .int bb.den]) = H17 at s17 fb ⊢
        have s1417 := (s15.trans s16).trans s17
        have dg17 := dg14.keep (Kp.same s1417)
        refine ⟨_, rfl, _, rfl, _, rfl, At w, .ref ga, k, R, top, low, rfl, dg17, n6, bn, h1, h2, ne, fun u1 H18 s18 g1 => ?_⟩
        refine ⟨_, rfl, _, rfl, _, rfl, rfl, At w, .ref ga, k, R, low, top, rfl, dg17.keep (Kp.same s18), n6, bn, h2, h1, fun z => ne z.symm, fun u2 H19 s19 g2 => ?_⟩
        rw [hbb] at g1
        rw [← ds, hbb] at g2
        refine ⟨sz63 (by show 2 ≤ 1000; decide), fun L nL => ?_⟩
        have s20 : Same H19 (upd H19 L (.lst [u1, u2])) := same_new nL
        have e20 : (upd H19 L (.lst [u1, u2])) L = some (.lst [u1, u2]) := upd_same
        generalize upd H19 L (.lst [u1, u2]) = H20 at s20 e20 ⊢
        have rb := fr_ok (zb.mono (show 770 + 510 ≤ 1900 by decide))
        have R2 := repr_parts (ds := [frD bb, frD bb]) (n := 100000) (fun d hd => by
          have e : d = frD bb := by simpa using hd
          rw [e]
          exact ⟨rb.1, by omega, by omega⟩) (by decide) (by show 2 ≤ 100; decide)
        have dT1 : DpAll K H20 [u1, u2] [frD bb, frD bb] := .cons (fr_dp (g1.same (s19.trans s20))) (.cons (fr_dp (g2.same s20)) .nil)
        refine ⟨_, rfl, _, _, rfl, R2.1, .inl ⟨.lst (.of e20) dT1, R2.2.1, R2.2.2, ?_⟩⟩
        refine ⟨_, rfl, _, rfl, sz63 (by show 2 ≤ 1000; decide), fun L2 nL2 => ?_⟩
        have s21 : Same H20 (upd H20 L2 (.lst [.ref pb, .ref pb])) := same_new nL2
        have e21 : (upd H20 L2 (.lst [.ref pb, .ref pb])) L2 = some (.lst [.ref pb, .ref pb]) := upd_same
        generalize upd H20 L2 (.lst [.ref pb, .ref pb]) = H21 at s21 e21 ⊢
        have s1721 := (s18.trans s19).trans (s20.trans s21)
        have fb21 := fb.same s1721
        have dT2 : DpAll K H21 [.ref pb, .ref pb] [frD bb, frD bb] := .cons (fr_dp fb21.fr) (.cons (fr_dp fb21.fr) .nil)
        refine ⟨_, _, rfl, R2.1, .inl ⟨.lst (.of e21) dT2, R2.2.1, R2.2.2, ?_⟩⟩
        refine ⟨rfl, _, rfl, ifF (by simp) ?_⟩
        have s1421 := s1417.trans s1721
        have dg21 := dg14.keep (Kp.same s1421)
        refine ⟨_, rfl, _, rfl, _, rfl, _, rfl, _, rfl, At w, .ref ga, k + 1, R, top, low, rfl, dg21, fun _ => lo_ok6 bn n6 h1 h2, fun vf H22 s22 df => ?_⟩
        rw [dst_far bn n6 h1 h2] at df
        have s1422 := s1421.trans s22
        refine ⟨vw, vf, _, _, 770, 510, rfl, (fw14.same s1422).fr, (dq_frA df).fr, zA, zd, by omega, fun pt npt => ?_⟩
        rw [hbb]
        have s23 : Same H22 (upd H22 pt (.tup [.int bb.num, .int bb.den])) := same_new npt
        have ft : FrA (upd H22 pt (.tup [.int bb.num, .int bb.den])) (.ref pt) bb := ⟨pt, rfl, upd_same⟩
        generalize upd H22 pt (.tup [.int bb.num, .int bb.den]) = H23 at s23 ft ⊢
        refine ⟨frD bb, frD bb, fr_dp (fb21.same (s22.trans s23)).fr, fr_dp ft.fr, fr_shaped _, fr_shaped _, ?_⟩
        rw [fr_eqv, decide_eq_true rfl]
        have s1423 := s1422.trans s23
        exact ⟨_, rfl, ifF (by simp) ⟨_, _, _, _, _, _, _, _, l14, rfl, well_sameS W14 s1423, dg14.keep (Kp.same s1423), dgo14.keep (Kp.same s1423), fw14.same s1423⟩⟩
      · rintro σ H13 ⟨vs, y6, y7, y8, y10, y11, y12, y13, l13, rfl, W13, _⟩
        exact q H13 l13 W13
/-! ### the law -/
def spLaw (K : PySem.W.Frag) : Sp := fun vs H Q _ => ∃ (a : Addr) (ns : List Int), vs = [.ref a] ∧ SqL K H a (ns.map V.int) ∧ ns.length ≤ 63 ∧ ∀ H', Q (.bl true) H'
theorem ok_law {f : Addr} {fd : FuncData} (F : Fun K "law" "law" slaw f fd) (M : Mb mg) (Dlaw_well : Df P w K mg base 1 "_law_well" ["script", "salt"] (spWell K)) (Dlaw_right : Dg P w K mg base 10 "_law_right" ["well"] spRight) :
    FnG P w K mg base 11 f fd ["script"] (spLaw K) := by
  refine okG F claw (fun vs H Q E h => ?_) (fun cdv _ outer s H vs Q E hG hr h => ?_)
  · obtain ⟨a, ns, rfl, _⟩ := h
    rfl
  · obtain ⟨a, ns, rfl, hS, hlen, q⟩ := h
    refine ⟨_, (pss_cons (ps_set (i := 1) claw.nd rfl (.inl rfl) (pe_call Dlaw_well.G (hr.mono (by first | decide | omega)) rfl Dlaw_well.g Dlaw_well.kp Dlaw_well.b .nil pass0 (pa_cons (pv 0) (pa_cons pe_int pa_nil))))
 (pss_cons (ps_for PassesOwn.never rfl (pi_range1 (by rfl) M.range (pa_cons pe_int pa_nil)) (pg_name (i := 2) claw.nd rfl (.inl rfl))
 (pss_one (ps_if (pt_not (pt_val (pe_callG Dlaw_right.G hG (hr.mono (by first | decide | omega)) rfl Dlaw_right.g Dlaw_right.kp Dlaw_right.b (pa_cons (pv 1) pa_nil))))
 (pss_one (ps_ret pe_bl))
 pss_nil)))
 (pss_one (ps_ret pe_bl)))), ?_⟩
    refine ⟨_, rfl, a, ns, 23, rfl, hS, hlen, fun H1 w n1 s1 W1 => ?_⟩
    obtain ⟨l1, W1⟩ := W1
    refine ⟨3, rfl, by decide, by decide, for_range (lo := 0) (n := 3) (fun i σ H' => ∃ y l', σ = [some (.ref a), some (.ref w), y] ∧ WellAt w l' H') ⟨none, l1, rfl, W1⟩ ?_ ?_⟩
    · rintro i σ H2 hi ⟨y, l2, rfl, W2⟩
      exact ⟨_, rfl, w, l2, rfl, W2, fun H3 l3 W3 => ⟨_, rfl, ifF (by simp) ⟨_, l3, rfl, W3⟩⟩⟩
    · rintro σ H2 ⟨y, l2, rfl, W2⟩
      exact q H2
end
end Kx
/-! What the top has written; the end. -/
namespace Kx
open PySem PySem.Spec PyProof.Rows L2 Bw
/-- a def as the top has written it -/
def DefR (K : PySem.W.Frag) (x : Str) (st : Stmt) : Prop := ∃ (f : Addr) (oc : Value) (od : Option Addr) (kV doc pm : Value) (an : Option Addr) (cdv ct : Value) (osl : Array (Option Value)),
  PySem.W.nsIn K mainGlobals x = some (some (.ref f)) ∧ K.lookup f = some ⟨oc, od, .func (PySem.W.fnOf x x (defArgs st) (defBody st) (defScope st) .none kV doc pm an cdv ct), osl⟩ ∧ PySem.W.codeIn K cdv x = true ∧
  PySem.W.keepIn K (.ref f) = true
/-- a pair that stands at the top -/
def PairR (K : PySem.W.Frag) (x : Str) (i j : Int) : Prop := ∃ (a : Addr) (dd : Option Addr) (t u : Tok) (n : Nat) (sl : Array (Option Value)), PySem.W.nsIn K mainGlobals x = some (some (.ref a)) ∧ K.lookup a = some ⟨.type "tuple", dd, .seq #[.int i t, .int j u] n, sl⟩
section
variable {P : Program} {w : World} {K : PySem.W.Frag} {mg : Str → Option Value} {base h : Heap}
theorem def_of {x : Str} {st : Stmt} (X : K.In h) (G : h.Ns mainGlobals mg) (r : DefR K x st) : ∃ f fd, Fun K x x st f fd ∧ mg x = some (.ref f) := by
  obtain ⟨f, oc, od, kV, doc, pm, an, cdv, ct, osl, a, l, c, k⟩ := r
  exact ⟨f, _, fun_mk (st := st) l c k, PySem.W.mg_of X G a⟩
theorem pair_of {x : Str} {i j : Int} (X : K.In h) (G : h.Ns mainGlobals mg) (r : PairR K x i j) : ∃ a, mg x = some (.ref a) ∧ ∀ H, SqT K H a [.int i, .int j] := by
  obtain ⟨a, dd, t, u, n, sl, h1, h2⟩ := r
  exact ⟨a, PySem.W.mg_of X G h1, fun H => .inr ⟨_, _, n, h2, rfl, rfl, sz63 (by show 2 ≤ 1000; decide), .cons ⟨t, rfl⟩ (.cons ⟨u, rfl⟩ .nil)⟩⟩
theorem kwn_of {x : Str} {st : Stmt} {f : Addr} {fd : FuncData} {ps : List Str} (F : Fun K x x st f fd) (hh : ∀ (kV doc pm : Value) (an : Option Addr) (cdv ct : Value) (ws : List Value), ws.length = ps.length →
    bindArgs (PySem.W.fnOf x x (defArgs st) (defBody st) (defScope st) .none kV doc pm an cdv ct) ⟨[], ps.zip ws⟩ = pure (ps.zip ws)) : ∀ (s : Shared) (ws : List Value), K.In s.heap → ws.length = ps.length → BindsTo s fd ⟨[], ps.zip ws⟩ (ps.zip ws) := by
  obtain ⟨oc, od, kV, doc, pm, an, cdv, ct, osl, rfl, _, _⟩ := F.ex
  exact fun s ws _ hl => .of_eq (hh kV doc pm an cdv ct ws hl)
theorem kwn2_of {x : Str} {st : Stmt} {f : Addr} {fd : FuncData} {x1 x2 : Str} (F : Fun K x x st f fd) (hh : ∀ (kV doc pm : Value) (an : Option Addr) (cdv ct a b : Value),
    bindArgs (PySem.W.fnOf x x (defArgs st) (defBody st) (defScope st) .none kV doc pm an cdv ct) ⟨[], [(x2, a), (x1, b)]⟩ = pure [(x1, b), (x2, a)]) : ∀ (s : Shared) (a b : Value), K.In s.heap → BindsTo s fd ⟨[], [(x2, a), (x1, b)]⟩ [(x1, b), (x2, a)] := by
  obtain ⟨oc, od, kV, doc, pm, an, cdv, ct, osl, rfl, _, _⟩ := F.ex
  exact fun s a b _ => .of_eq (hh kV doc pm an cdv ct a b)
theorem kwp_of {x : Str} {st : Stmt} {f : Addr} {fd : FuncData} {ks ps : List Str} {π : List Nat} (F : Fun K x x st f fd) (hh : ∀ (kV doc pm : Value) (an : Option Addr) (cdv ct : Value) (ws : List Value), ws.length = ks.length →
    bindArgs (PySem.W.fnOf x x (defArgs st) (defBody st) (defScope st) .none kV doc pm an cdv ct) ⟨[], ks.zip ws⟩ = pure (ps.zip (π.map fun i => ws.getD i .none))) : ∀ (s : Shared) (ws : List Value), K.In s.heap → ws.length = ks.length → BindsTo s fd ⟨[], ks.zip ws⟩ (ps.zip (π.map fun i => ws.getD i .none)) := by
  obtain ⟨oc, od, kV, doc, pm, an, cdv, ct, osl, rfl, _, _⟩ := F.ex
  exact fun s ws _ hl => .of_eq (hh kV doc pm an cdv ct ws hl)
theorem law_binds {f : Addr} {fd : FuncData} (F : Fun K "law" "law" slaw f fd) (s : Shared) (u : Value) : BindsTo s fd ⟨[u], []⟩ [("script", u)] := by
  obtain ⟨oc, od, kV, doc, pm, an, cdv, ct, osl, rfl, _, _⟩ := F.ex
  exact .of_eq rfl
/-- all defs -/
theorem all_mk {fa : Addr} (X : K.In h) (G : h.Ns mainGlobals mg) (hfa : mg "law" = some (.ref fa))
    (dis_whole : DefR K "is_whole" sis_whole)
    (dis_place : DefR K "is_place" sis_place)
    (dis_fraction : DefR K "is_fraction" sis_fraction)
    (dis_from_nil : DefR K "is_from_nil" sis_from_nil)
    (dlowest : DefR K "lowest" slowest)
    (dplus : DefR K "plus" splus)
    (dminus : DefR K "minus" sminus)
    (dtimes : DefR K "times" stimes)
    (dtotal : DefR K "total" stotal)
    (dcommon_bottom : DefR K "common_bottom" scommon_bottom)
    (dscaled_by : DefR K "scaled_by" sscaled_by)
    (dscaled_row : DefR K "scaled_row" sscaled_row)
    (dpivot_from : DefR K "pivot_from" spivot_from)
    (dcleared : DefR K "cleared" scleared)
    (dreduced : DefR K "reduced" sreduced)
    (dsolved : DefR K "solved" ssolved)
    (dis_table_row : DefR K "is_table_row" sis_table_row)
    (dis_table : DefR K "is_table" sis_table)
    (dleads_to_all : DefR K "leads_to_all" sleads_to_all)
    (dis_whole_table : DefR K "is_whole_table" sis_whole_table)
    (dtree_square : DefR K "tree_square" stree_square)
    (dis_mirrored : DefR K "is_mirrored" sis_mirrored)
    (dis_weights : DefR K "is_weights" sis_weights)
    (dcheck_weights : DefR K "check_weights" scheck_weights)
    (dcheck_place : DefR K "check_place" scheck_place)
    (dcheck_ends : DefR K "check_ends" scheck_ends)
    (ddriving_heights : DefR K "driving_heights" sdriving_heights)
    (dapart : DefR K "apart" sapart)
    (din_all : DefR K "in_all" sin_all)
    (dthere_and_back : DefR K "there_and_back" sthere_and_back)
    (d_law_well : DefR K "_law_well" s_law_well)
    (d_law_pick : DefR K "_law_pick" s_law_pick)
    (d_law_of : DefR K "_law_of" s_law_of)
    (d_law_frac : DefR K "_law_frac" s_law_frac)
    (d_law_plus : DefR K "_law_plus" s_law_plus)
    (d_law_times : DefR K "_law_times" s_law_times)
    (d_law_over : DefR K "_law_over" s_law_over)
    (d_law_total : DefR K "_law_total" s_law_total)
    (d_law_over_sum : DefR K "_law_over_sum" s_law_over_sum)
    (d_law_weight : DefR K "_law_weight" s_law_weight)
    (d_law_bonds : DefR K "_law_bonds" s_law_bonds)
    (d_law_walk_by : DefR K "_law_walk_by" s_law_walk_by)
    (d_law_left_out : DefR K "_law_left_out" s_law_left_out)
    (d_law_far : DefR K "_law_far" s_law_far)
    (d_law_ends : DefR K "_law_ends" s_law_ends)
    (d_law_mean_steps : DefR K "_law_mean_steps" s_law_mean_steps)
    (d_law_right : DefR K "_law_right" s_law_right)
    (dlaw : DefR K "law" slaw)
    (zint : PySem.W.nsIn K mainGlobals "int" = some none)
    (zlen : PySem.W.nsIn K mainGlobals "len" = some none)
    (zabs : PySem.W.nsIn K mainGlobals "abs" = some none)
    (zdivmod : PySem.W.nsIn K mainGlobals "divmod" = some none)
    (zrange : PySem.W.nsIn K mainGlobals "range" = some none)
    (zenumerate : PySem.W.nsIn K mainGlobals "enumerate" = some none)
    (zisinstance : PySem.W.nsIn K mainGlobals "isinstance" = some none)
    (zrepr : PySem.W.nsIn K mainGlobals "repr" = some none)
    (ztuple : PySem.W.nsIn K mainGlobals "tuple" = some none)
    (zlist : PySem.W.nsIn K mainGlobals "list" = some none)
    (zall : PySem.W.nsIn K mainGlobals "all" = some none)
    (zzip : PySem.W.nsIn K mainGlobals "zip" = some none)
    (zstr : PySem.W.nsIn K mainGlobals "str" = some none)
    (zbool : PySem.W.nsIn K mainGlobals "bool" = some none)
    (zset : PySem.W.nsIn K mainGlobals "set" = some none)
    (zmin : PySem.W.nsIn K mainGlobals "min" = some none)
    (zmax : PySem.W.nsIn K mainGlobals "max" = some none)
    (zsorted : PySem.W.nsIn K mainGlobals "sorted" = some none)
    (pn : PairR K "NIL" 0 1) (po : PairR K "ONE" 1 1) (pg : PySem.W.nsIn K mainGlobals "gcd" = some (some (.builtin "math.gcd"))) (pl : PySem.W.nsIn K mainGlobals "lcm" = some (some (.builtin "math.lcm"))) (pm : ∃ t : Tok, PySem.W.nsIn K mainGlobals "MOST_PLACES" = some (some (.int 6 t)))
    : ∃ fd : FuncData, (∀ (s : Shared) (u : Value), BindsTo s fd ⟨[u], []⟩ [("script", u)]) ∧ ∀ base : Heap, K.In base → base.Ns mainGlobals mg → FnG P w K mg base 11 fa fd ["script"] (spLaw K) := by
  have M : Mb mg := ⟨PySem.W.mg_none_of X G zint, PySem.W.mg_none_of X G zlen, PySem.W.mg_none_of X G zabs, PySem.W.mg_none_of X G zdivmod, PySem.W.mg_none_of X G zrange, PySem.W.mg_none_of X G zenumerate, PySem.W.mg_none_of X G zisinstance, PySem.W.mg_none_of X G zrepr, PySem.W.mg_none_of X G ztuple, PySem.W.mg_none_of X G zlist, PySem.W.mg_none_of X G zall, PySem.W.mg_none_of X G zzip, PySem.W.mg_none_of X G zstr, PySem.W.mg_none_of X G zbool, PySem.W.mg_none_of X G zset, PySem.W.mg_none_of X G zmin, PySem.W.mg_none_of X G zmax, PySem.W.mg_none_of X G zsorted⟩
  obtain ⟨an, gn, tn⟩ := pair_of X G pn
  obtain ⟨ao, go, to⟩ := pair_of X G po
  obtain ⟨tm, gm⟩ := pm
  let Z : Mp K mg := ⟨PySem.W.mg_of X G pg, an, gn, tn, ao, go, to, tm, PySem.W.mg_of X G gm⟩
  let ZL : Ml mg := ⟨PySem.W.mg_of X G pl⟩
  obtain ⟨fis_whole, fdis_whole, Fis_whole, gis_whole⟩ := def_of X G dis_whole
  obtain ⟨fis_place, fdis_place, Fis_place, gis_place⟩ := def_of X G dis_place
  obtain ⟨fis_fraction, fdis_fraction, Fis_fraction, gis_fraction⟩ := def_of X G dis_fraction
  obtain ⟨fis_from_nil, fdis_from_nil, Fis_from_nil, gis_from_nil⟩ := def_of X G dis_from_nil
  obtain ⟨flowest, fdlowest, Flowest, glowest⟩ := def_of X G dlowest
  obtain ⟨fplus, fdplus, Fplus, gplus⟩ := def_of X G dplus
  obtain ⟨fminus, fdminus, Fminus, gminus⟩ := def_of X G dminus
  obtain ⟨ftimes, fdtimes, Ftimes, gtimes⟩ := def_of X G dtimes
  obtain ⟨ftotal, fdtotal, Ftotal, gtotal⟩ := def_of X G dtotal
  obtain ⟨fcommon_bottom, fdcommon_bottom, Fcommon_bottom, gcommon_bottom⟩ := def_of X G dcommon_bottom
  obtain ⟨fscaled_by, fdscaled_by, Fscaled_by, gscaled_by⟩ := def_of X G dscaled_by
  obtain ⟨fscaled_row, fdscaled_row, Fscaled_row, gscaled_row⟩ := def_of X G dscaled_row
  obtain ⟨fpivot_from, fdpivot_from, Fpivot_from, gpivot_from⟩ := def_of X G dpivot_from
  obtain ⟨fcleared, fdcleared, Fcleared, gcleared⟩ := def_of X G dcleared
  obtain ⟨freduced, fdreduced, Freduced, greduced⟩ := def_of X G dreduced
  obtain ⟨fsolved, fdsolved, Fsolved, gsolved⟩ := def_of X G dsolved
  obtain ⟨fis_table_row, fdis_table_row, Fis_table_row, gis_table_row⟩ := def_of X G dis_table_row
  obtain ⟨fis_table, fdis_table, Fis_table, gis_table⟩ := def_of X G dis_table
  obtain ⟨fleads_to_all, fdleads_to_all, Fleads_to_all, gleads_to_all⟩ := def_of X G dleads_to_all
  obtain ⟨fis_whole_table, fdis_whole_table, Fis_whole_table, gis_whole_table⟩ := def_of X G dis_whole_table
  obtain ⟨ftree_square, fdtree_square, Ftree_square, gtree_square⟩ := def_of X G dtree_square
  obtain ⟨fis_mirrored, fdis_mirrored, Fis_mirrored, gis_mirrored⟩ := def_of X G dis_mirrored
  obtain ⟨fis_weights, fdis_weights, Fis_weights, gis_weights⟩ := def_of X G dis_weights
  obtain ⟨fcheck_weights, fdcheck_weights, Fcheck_weights, gcheck_weights⟩ := def_of X G dcheck_weights
  obtain ⟨fcheck_place, fdcheck_place, Fcheck_place, gcheck_place⟩ := def_of X G dcheck_place
  obtain ⟨fcheck_ends, fdcheck_ends, Fcheck_ends, gcheck_ends⟩ := def_of X G dcheck_ends
  obtain ⟨fdriving_heights, fddriving_heights, Fdriving_heights, gdriving_heights⟩ := def_of X G ddriving_heights
  obtain ⟨fapart, fdapart, Fapart, gapart⟩ := def_of X G dapart
  obtain ⟨fin_all, fdin_all, Fin_all, gin_all⟩ := def_of X G din_all
  obtain ⟨fthere_and_back, fdthere_and_back, Fthere_and_back, gthere_and_back⟩ := def_of X G dthere_and_back
  obtain ⟨f_law_well, fd_law_well, F_law_well, g_law_well⟩ := def_of X G d_law_well
  obtain ⟨f_law_pick, fd_law_pick, F_law_pick, g_law_pick⟩ := def_of X G d_law_pick
  obtain ⟨f_law_of, fd_law_of, F_law_of, g_law_of⟩ := def_of X G d_law_of
  obtain ⟨f_law_frac, fd_law_frac, F_law_frac, g_law_frac⟩ := def_of X G d_law_frac
  obtain ⟨f_law_plus, fd_law_plus, F_law_plus, g_law_plus⟩ := def_of X G d_law_plus
  obtain ⟨f_law_times, fd_law_times, F_law_times, g_law_times⟩ := def_of X G d_law_times
  obtain ⟨f_law_over, fd_law_over, F_law_over, g_law_over⟩ := def_of X G d_law_over
  obtain ⟨f_law_total, fd_law_total, F_law_total, g_law_total⟩ := def_of X G d_law_total
  obtain ⟨f_law_over_sum, fd_law_over_sum, F_law_over_sum, g_law_over_sum⟩ := def_of X G d_law_over_sum
  obtain ⟨f_law_weight, fd_law_weight, F_law_weight, g_law_weight⟩ := def_of X G d_law_weight
  obtain ⟨f_law_bonds, fd_law_bonds, F_law_bonds, g_law_bonds⟩ := def_of X G d_law_bonds
  obtain ⟨f_law_walk_by, fd_law_walk_by, F_law_walk_by, g_law_walk_by⟩ := def_of X G d_law_walk_by
  obtain ⟨f_law_left_out, fd_law_left_out, F_law_left_out, g_law_left_out⟩ := def_of X G d_law_left_out
  obtain ⟨f_law_far, fd_law_far, F_law_far, g_law_far⟩ := def_of X G d_law_far
  obtain ⟨f_law_ends, fd_law_ends, F_law_ends, g_law_ends⟩ := def_of X G d_law_ends
  obtain ⟨f_law_mean_steps, fd_law_mean_steps, F_law_mean_steps, g_law_mean_steps⟩ := def_of X G d_law_mean_steps
  obtain ⟨f_law_right, fd_law_right, F_law_right, g_law_right⟩ := def_of X G d_law_right
  obtain ⟨flaw, fdlaw, Flaw, glaw⟩ := def_of X G dlaw
  have e := hfa.symm.trans glaw
  cases e
  refine ⟨fdlaw, law_binds Flaw, fun base _ _ => ?_⟩
  let Dis_whole : Df P w K mg base 1 "is_whole" ["value"] _ := ⟨fis_whole, fdis_whole, gis_whole, Fis_whole.kp, (Fis_whole.binds (ps := ["value"]) fun _ _ _ _ _ _ us hl => match us, hl with | [_], _ => rfl), ok_is_whole Fis_whole M⟩
  let Dis_place : Df P w K mg base 2 "is_place" ["value", "many"] _ := ⟨fis_place, fdis_place, gis_place, Fis_place.kp, (Fis_place.binds (ps := ["value", "many"]) fun _ _ _ _ _ _ us hl => match us, hl with | [_, _], _ => rfl), ok_is_place Fis_place M Dis_whole⟩
  let Dis_fraction : Df P w K mg base 2 "is_fraction" ["value"] _ := ⟨fis_fraction, fdis_fraction, gis_fraction, Fis_fraction.kp, (Fis_fraction.binds (ps := ["value"]) fun _ _ _ _ _ _ us hl => match us, hl with | [_], _ => rfl), ok_is_fraction Fis_fraction M Z Dis_whole⟩
  let Dis_from_nil : Df P w K mg base 3 "is_from_nil" ["value"] _ := ⟨fis_from_nil, fdis_from_nil, gis_from_nil, Fis_from_nil.kp, (Fis_from_nil.binds (ps := ["value"]) fun _ _ _ _ _ _ us hl => match us, hl with | [_], _ => rfl), ok_is_from_nil Fis_from_nil M Dis_fraction⟩
  let Dlowest : Df P w K mg base 1 "lowest" ["top", "bottom"] _ := ⟨flowest, fdlowest, glowest, Flowest.kp, (Flowest.binds (ps := ["top", "bottom"]) fun _ _ _ _ _ _ us hl => match us, hl with | [_, _], _ => rfl), ok_lowest Flowest M Z⟩
  let Dplus : Df P w K mg base 2 "plus" ["one", "other"] _ := ⟨fplus, fdplus, gplus, Fplus.kp, (Fplus.binds (ps := ["one", "other"]) fun _ _ _ _ _ _ us hl => match us, hl with | [_, _], _ => rfl), ok_plus Fplus M Dlowest⟩
  let Dminus : Df P w K mg base 2 "minus" ["one", "other"] _ := ⟨fminus, fdminus, gminus, Fminus.kp, (Fminus.binds (ps := ["one", "other"]) fun _ _ _ _ _ _ us hl => match us, hl with | [_, _], _ => rfl), ok_minus Fminus M Dlowest⟩
  let Dtimes : Df P w K mg base 2 "times" ["one", "other"] _ := ⟨ftimes, fdtimes, gtimes, Ftimes.kp, (Ftimes.binds (ps := ["one", "other"]) fun _ _ _ _ _ _ us hl => match us, hl with | [_, _], _ => rfl), ok_times Ftimes M Dlowest⟩
  let Dtotal : Df P w K mg base 3 "total" ["fractions"] _ := ⟨ftotal, fdtotal, gtotal, Ftotal.kp, (Ftotal.binds (ps := ["fractions"]) fun _ _ _ _ _ _ us hl => match us, hl with | [_], _ => rfl), ok_total Ftotal M Z Dplus⟩
  let DtotB : Df P w K mg base 3 "total" ["fractions"] _ := ⟨ftotal, fdtotal, gtotal, Ftotal.kp, (Ftotal.binds (ps := ["fractions"]) fun _ _ _ _ _ _ us hl => match us, hl with | [_], _ => rfl), ok_totB Ftotal M Z Dplus⟩
  let Dcommon_bottom : Df P w K mg base 1 "common_bottom" ["fractions"] _ := ⟨fcommon_bottom, fdcommon_bottom, gcommon_bottom, Fcommon_bottom.kp, (Fcommon_bottom.binds (ps := ["fractions"]) fun _ _ _ _ _ _ us hl => match us, hl with | [_], _ => rfl), ok_cb Fcommon_bottom M ZL⟩
  let Dscaled_by : Df P w K mg base 1 "scaled_by" ["row", "number"] _ := ⟨fscaled_by, fdscaled_by, gscaled_by, Fscaled_by.kp, (Fscaled_by.binds (ps := ["row", "number"]) fun _ _ _ _ _ _ us hl => match us, hl with | [_, _], _ => rfl), ok_scaled Fscaled_by M⟩
  let Dscaled_row : Df P w K mg base 2 "scaled_row" ["row"] _ := ⟨fscaled_row, fdscaled_row, gscaled_row, Fscaled_row.kp, (Fscaled_row.binds (ps := ["row"]) fun _ _ _ _ _ _ us hl => match us, hl with | [_], _ => rfl), ok_scaledr Fscaled_row M Dcommon_bottom Dscaled_by⟩
  let Dpivot_from : Df P w K mg base 1 "pivot_from" ["rows", "at"] _ := ⟨fpivot_from, fdpivot_from, gpivot_from, Fpivot_from.kp, (Fpivot_from.binds (ps := ["rows", "at"]) fun _ _ _ _ _ _ us hl => match us, hl with | [_, _], _ => rfl), ok_pivot Fpivot_from M⟩
  let Dcleared : Df P w K mg base 1 "cleared" ["rows", "at", "divisor"] _ := ⟨fcleared, fdcleared, gcleared, Fcleared.kp, (Fcleared.binds (ps := ["rows", "at", "divisor"]) fun _ _ _ _ _ _ us hl => match us, hl with | [_, _, _], _ => rfl), ok_cleared Fcleared M⟩
  let Dreduced : Df P w K mg base 2 "reduced" ["rows"] _ := ⟨freduced, fdreduced, greduced, Freduced.kp, (Freduced.binds (ps := ["rows"]) fun _ _ _ _ _ _ us hl => match us, hl with | [_], _ => rfl), ok_reducedR Freduced M Dpivot_from Dcleared⟩
  let Dsolved : Df P w K mg base 3 "solved" ["square", "sides"] _ := ⟨fsolved, fdsolved, gsolved, Fsolved.kp, (Fsolved.binds (ps := ["square", "sides"]) fun _ _ _ _ _ _ us hl => match us, hl with | [_, _], _ => rfl), ok_solved Fsolved M Dscaled_row Dreduced Dlowest⟩
  let Dis_table_row : Df P w K mg base 4 "is_table_row" ["value", "many"] _ := ⟨fis_table_row, fdis_table_row, gis_table_row, Fis_table_row.kp, (Fis_table_row.binds (ps := ["value", "many"]) fun _ _ _ _ _ _ us hl => match us, hl with | [_, _], _ => rfl), ok_is_table_row Fis_table_row M Dis_from_nil⟩
  let Dis_table : Df P w K mg base 5 "is_table" ["value"] _ := ⟨fis_table, fdis_table, gis_table, Fis_table.kp, (Fis_table.binds (ps := ["value"]) fun _ _ _ _ _ _ us hl => match us, hl with | [_], _ => rfl), ok_is_table Fis_table M Z Dis_table_row⟩
  let Dleads_to_all : Df P w K mg base 1 "leads_to_all" ["links"] _ := ⟨fleads_to_all, fdleads_to_all, gleads_to_all, Fleads_to_all.kp, (Fleads_to_all.binds (ps := ["links"]) fun _ _ _ _ _ _ us hl => match us, hl with | [_], _ => rfl), ok_leads Fleads_to_all M⟩
  let Dis_whole_table : Df P w K mg base 2 "is_whole_table" ["table"] _ := ⟨fis_whole_table, fdis_whole_table, gis_whole_table, Fis_whole_table.kp, (Fis_whole_table.binds (ps := ["table"]) fun _ _ _ _ _ _ us hl => match us, hl with | [_], _ => rfl), ok_whole Fis_whole_table M Dleads_to_all⟩
  let Dtree_square : Df P w K mg base 4 "tree_square" ["table", "root"] _ := ⟨ftree_square, fdtree_square, gtree_square, Ftree_square.kp, (Ftree_square.binds (ps := ["table", "root"]) fun _ _ _ _ _ _ us hl => match us, hl with | [_, _], _ => rfl), ok_treesq Ftree_square M Z Dminus Dtotal⟩
  let Dis_mirrored : Df P w K mg base 1 "is_mirrored" ["table"] _ := ⟨fis_mirrored, fdis_mirrored, gis_mirrored, Fis_mirrored.kp, (Fis_mirrored.binds (ps := ["table"]) fun _ _ _ _ _ _ us hl => match us, hl with | [_], _ => rfl), ok_mirr Fis_mirrored M⟩
  let Dis_weights : Df P w K mg base 6 "is_weights" ["value"] _ := ⟨fis_weights, fdis_weights, gis_weights, Fis_weights.kp, (Fis_weights.binds (ps := ["value"]) fun _ _ _ _ _ _ us hl => match us, hl with | [_], _ => rfl), ok_wts Fis_weights M Dis_table Dis_mirrored Dis_whole_table Dtotal⟩
  let Dcheck_weights : Df P w K mg base 7 "check_weights" ["weights"] _ := ⟨fcheck_weights, fdcheck_weights, gcheck_weights, Fcheck_weights.kp, (Fcheck_weights.binds (ps := ["weights"]) fun _ _ _ _ _ _ us hl => match us, hl with | [_], _ => rfl), ok_chw Fcheck_weights M Dis_weights⟩
  let Dcheck_place : Df P w K mg base 3 "check_place" ["weights", "place"] _ := ⟨fcheck_place, fdcheck_place, gcheck_place, Fcheck_place.kp, (Fcheck_place.binds (ps := ["weights", "place"]) fun _ _ _ _ _ _ us hl => match us, hl with | [_, _], _ => rfl), ok_chp Fcheck_place M Dis_place⟩
  let Dcheck_ends : Df P w K mg base 8 "check_ends" ["weights", "one", "two"] _ := ⟨fcheck_ends, fdcheck_ends, gcheck_ends, Fcheck_ends.kp, (Fcheck_ends.binds (ps := ["weights", "one", "two"]) fun _ _ _ _ _ _ us hl => match us, hl with | [_, _, _], _ => rfl), ok_che Fcheck_ends M Dcheck_weights Dcheck_place⟩
  let Ddriving_heights : Df P w K mg base 5 "driving_heights" ["weights", "one", "two"] _ := ⟨fdriving_heights, fddriving_heights, gdriving_heights, Fdriving_heights.kp, (Fdriving_heights.binds (ps := ["weights", "one", "two"]) fun _ _ _ _ _ _ us hl => match us, hl with | [_, _, _], _ => rfl), ok_dh Fdriving_heights M Z Dtree_square Dsolved⟩
  let Dapart : Df P w K mg base 8 "apart" ["weights", "one", "two"] _ := ⟨fapart, fdapart, gapart, Fapart.kp, (Fapart.binds (ps := ["weights", "one", "two"]) fun _ _ _ _ _ _ us hl => match us, hl with | [_, _, _], _ => rfl), ok_ap Fapart M Z Dcheck_weights Dcheck_place Ddriving_heights⟩
  let Din_all : Df P w K mg base 8 "in_all" ["weights"] _ := ⟨fin_all, fdin_all, gin_all, Fin_all.kp, (Fin_all.binds (ps := ["weights"]) fun _ _ _ _ _ _ us hl => match us, hl with | [_], _ => rfl), ok_ia Fin_all M Dcheck_weights Dtotal DtotB⟩
  have Nin_all_0 := kwp_of (ks := ["weights"]) (ps := ["weights"]) (π := [0]) Fin_all fun _ _ _ _ _ _ ws hl => match ws, hl with | [_], _ => rfl
  let Dthere_and_back : Df P w K mg base 9 "there_and_back" ["weights", "one", "two"] _ := ⟨fthere_and_back, fdthere_and_back, gthere_and_back, Fthere_and_back.kp, (Fthere_and_back.binds (ps := ["weights", "one", "two"]) fun _ _ _ _ _ _ us hl => match us, hl with | [_, _, _], _ => rfl), ok_tab Fthere_and_back M Dcheck_ends Din_all Dapart Dtimes⟩
  have Nthere_and_back_210 := kwp_of (ks := ["two", "one", "weights"]) (ps := ["weights", "one", "two"]) (π := [2, 1, 0]) Fthere_and_back fun _ _ _ _ _ _ ws hl => match ws, hl with | [_, _, _], _ => rfl
  let Dlaw_well : Df P w K mg base 1 "_law_well" ["script", "salt"] _ := ⟨f_law_well, fd_law_well, g_law_well, F_law_well.kp, (F_law_well.binds (ps := ["script", "salt"]) fun _ _ _ _ _ _ us hl => match us, hl with | [_, _], _ => rfl), ok_well F_law_well M⟩
  let Dlaw_pick : Df P w K mg base 1 "_law_pick" ["well", "limit"] _ := ⟨f_law_pick, fd_law_pick, g_law_pick, F_law_pick.kp, (F_law_pick.binds (ps := ["well", "limit"]) fun _ _ _ _ _ _ us hl => match us, hl with | [_, _], _ => rfl), ok_pickL F_law_pick M⟩
  let Dlaw_of : Df P w K mg base 2 "_law_of" ["well", "some"] _ := ⟨f_law_of, fd_law_of, g_law_of, F_law_of.kp, (F_law_of.binds (ps := ["well", "some"]) fun _ _ _ _ _ _ us hl => match us, hl with | [_, _], _ => rfl), ok_ofL F_law_of M Dlaw_pick⟩
  let Dlaw_frac : Df P w K mg base 1 "_law_frac" ["up", "down"] _ := ⟨f_law_frac, fd_law_frac, g_law_frac, F_law_frac.kp, (F_law_frac.binds (ps := ["up", "down"]) fun _ _ _ _ _ _ us hl => match us, hl with | [_, _], _ => rfl), ok_lfrac F_law_frac M⟩
  let Dlaw_plus : Df P w K mg base 2 "_law_plus" ["here", "there"] _ := ⟨f_law_plus, fd_law_plus, g_law_plus, F_law_plus.kp, (F_law_plus.binds (ps := ["here", "there"]) fun _ _ _ _ _ _ us hl => match us, hl with | [_, _], _ => rfl), ok_lplus F_law_plus M Dlaw_frac⟩
  let Dlaw_times : Df P w K mg base 2 "_law_times" ["here", "there"] _ := ⟨f_law_times, fd_law_times, g_law_times, F_law_times.kp, (F_law_times.binds (ps := ["here", "there"]) fun _ _ _ _ _ _ us hl => match us, hl with | [_, _], _ => rfl), ok_ltimes F_law_times M Dlaw_frac⟩
  let Dlaw_over : Df P w K mg base 2 "_law_over" ["here", "there"] _ := ⟨f_law_over, fd_law_over, g_law_over, F_law_over.kp, (F_law_over.binds (ps := ["here", "there"]) fun _ _ _ _ _ _ us hl => match us, hl with | [_, _], _ => rfl), ok_lover F_law_over M Dlaw_frac⟩
  let DtotT : Df P w K mg base 3 "_law_total" ["parts"] _ := ⟨f_law_total, fd_law_total, g_law_total, F_law_total.kp, (F_law_total.binds (ps := ["parts"]) fun _ _ _ _ _ _ us hl => match us, hl with | [_], _ => rfl), ok_ltotalT F_law_total M Dlaw_plus⟩
  let Dlaw_total : Df P w K mg base 3 "_law_total" ["parts"] _ := ⟨f_law_total, fd_law_total, g_law_total, F_law_total.kp, (F_law_total.binds (ps := ["parts"]) fun _ _ _ _ _ _ us hl => match us, hl with | [_], _ => rfl), ok_ltotalL F_law_total M Dlaw_plus⟩
  let DosT : Df P w K mg base 4 "_law_over_sum" ["row"] _ := ⟨f_law_over_sum, fd_law_over_sum, g_law_over_sum, F_law_over_sum.kp, (F_law_over_sum.binds (ps := ["row"]) fun _ _ _ _ _ _ us hl => match us, hl with | [_], _ => rfl), ok_loversumT F_law_over_sum M Dlaw_over DtotT⟩
  let Dlaw_weight : Df P w K mg base 2 "_law_weight" ["well"] _ := ⟨f_law_weight, fd_law_weight, g_law_weight, F_law_weight.kp, (F_law_weight.binds (ps := ["well"]) fun _ _ _ _ _ _ us hl => match us, hl with | [_], _ => rfl), ok_lweight F_law_weight M Dlaw_pick Dlaw_frac⟩
  let Dlaw_bonds : Df P w K mg base 3 "_law_bonds" ["well", "many"] _ := ⟨f_law_bonds, fd_law_bonds, g_law_bonds, F_law_bonds.kp, (F_law_bonds.binds (ps := ["well", "many"]) fun _ _ _ _ _ _ us hl => match us, hl with | [_, _], _ => rfl), ok_lbonds F_law_bonds M Dlaw_pick Dlaw_of Dlaw_weight⟩
  let Dlaw_walk_by : Df P w K mg base 5 "_law_walk_by" ["bonds"] _ := ⟨f_law_walk_by, fd_law_walk_by, g_law_walk_by, F_law_walk_by.kp, (F_law_walk_by.binds (ps := ["bonds"]) fun _ _ _ _ _ _ us hl => match us, hl with | [_], _ => rfl), ok_lwalkby F_law_walk_by M DosT⟩
  let Dlaw_left_out : Df P w K mg base 4 "_law_left_out" ["bonds", "keep"] _ := ⟨f_law_left_out, fd_law_left_out, g_law_left_out, F_law_left_out.kp, (F_law_left_out.binds (ps := ["bonds", "keep"]) fun _ _ _ _ _ _ us hl => match us, hl with | [_, _], _ => rfl), ok_lleft F_law_left_out M Dlaw_total Dlaw_over Dlaw_times Dlaw_plus⟩
  let Dlaw_far : Df P w K mg base 5 "_law_far" ["bonds", "top", "low"] _ := ⟨f_law_far, fd_law_far, g_law_far, F_law_far.kp, (F_law_far.binds (ps := ["bonds", "top", "low"]) fun _ _ _ _ _ _ us hl => match us, hl with | [_, _, _], _ => rfl), ok_lfar F_law_far M Dlaw_left_out Dlaw_over⟩
  let Dlaw_ends : Df P w K mg base 2 "_law_ends" ["well", "many"] _ := ⟨f_law_ends, fd_law_ends, g_law_ends, F_law_ends.kp, (F_law_ends.binds (ps := ["well", "many"]) fun _ _ _ _ _ _ us hl => match us, hl with | [_, _], _ => rfl), ok_lends F_law_ends M Dlaw_pick⟩
  let Dlaw_mean_steps : Df P w K mg base 4 "_law_mean_steps" ["going", "top", "low"] _ := ⟨f_law_mean_steps, fd_law_mean_steps, g_law_mean_steps, F_law_mean_steps.kp, (F_law_mean_steps.binds (ps := ["going", "top", "low"]) fun _ _ _ _ _ _ us hl => match us, hl with | [_, _, _], _ => rfl), ok_lmean F_law_mean_steps M Dlaw_total Dlaw_over Dlaw_times Dlaw_plus⟩
  let Dlaw_right : Dg P w K mg base 10 "_law_right" ["well"] _ := ⟨f_law_right, fd_law_right, g_law_right, F_law_right.kp, (F_law_right.binds (ps := ["well"]) fun _ _ _ _ _ _ us hl => match us, hl with | [_], _ => rfl), ok_right F_law_right M Dlaw_of Dlaw_bonds Dlaw_walk_by Dlaw_total DtotT Dlaw_far Dlaw_plus Dlaw_times Dlaw_ends Dlaw_mean_steps Dapart Din_all Dthere_and_back Nin_all_0 Nthere_and_back_210⟩
  exact ok_law Flaw M Dlaw_well Dlaw_right
end
end Kx
open PySem PySem.W PyProof.Rows
set_option maxRecDepth 100000 in
set_option maxHeartbeats 0 in
theorem PySem.Challenge.cw_backwalks_k23_whole_foster_and_there_and_holds : PySem.Challenge.rw_backwalks_k23_whole_foster_and_there_and.Holds := by
  w_on; o_law; k_head; (case hw => w_witness2)
  k_fill
  refine Bw.walk_G (l := PySem.Challenge.rw_backwalks_k23_whole_foster_and_there_and) (n := 63) (k := 11) (x := "script") (sp := Kx.spLaw) rfl (by decide) rfl ⟨rfl, by decide, by decide⟩ (fun w h Y => PySem.W.kIn_of Y) ?F (fun K H a ns hl _ hS => ⟨a, ns, rfl, hS, hl, fun _ => rfl⟩)
  case F =>
    intro w mg fa h KX G hmg
    refine' Kx.all_mk KX G hmg ?dis_whole ?dis_place ?dis_fraction ?dis_from_nil ?dlowest ?dplus ?dminus ?dtimes ?dtotal ?dcommon_bottom ?dscaled_by ?dscaled_row ?dpivot_from ?dcleared ?dreduced ?dsolved ?dis_table_row ?dis_table ?dleads_to_all ?dis_whole_table ?dtree_square ?dis_mirrored ?dis_weights ?dcheck_weights ?dcheck_place ?dcheck_ends ?ddriving_heights ?dapart ?din_all ?dthere_and_back ?d_law_well ?d_law_pick ?d_law_of ?d_law_frac ?d_law_plus ?d_law_times ?d_law_over ?d_law_total ?d_law_over_sum ?d_law_weight ?d_law_bonds ?d_law_walk_by ?d_law_left_out ?d_law_far ?d_law_ends ?d_law_mean_steps ?d_law_right ?dlaw ?zint ?zlen ?zabs ?zdivmod ?zrange ?zenumerate ?zisinstance ?zrepr ?ztuple ?zlist ?zall ?zzip ?zstr ?zbool ?zset ?zmin ?zmax ?zsorted ?pn ?po ?pg ?pl ?pm
    (case dis_whole => exact ⟨_, _, _, _, _, _, _, _, _, _, by k_is, by k_is, by k_is, by k_is⟩)
    (case dis_place => exact ⟨_, _, _, _, _, _, _, _, _, _, by k_is, by k_is, by k_is, by k_is⟩)
    (case dis_fraction => exact ⟨_, _, _, _, _, _, _, _, _, _, by k_is, by k_is, by k_is, by k_is⟩)
    (case dis_from_nil => exact ⟨_, _, _, _, _, _, _, _, _, _, by k_is, by k_is, by k_is, by k_is⟩)
    (case dlowest => exact ⟨_, _, _, _, _, _, _, _, _, _, by k_is, by k_is, by k_is, by k_is⟩)
    (case dplus => exact ⟨_, _, _, _, _, _, _, _, _, _, by k_is, by k_is, by k_is, by k_is⟩)
    (case dminus => exact ⟨_, _, _, _, _, _, _, _, _, _, by k_is, by k_is, by k_is, by k_is⟩)
    (case dtimes => exact ⟨_, _, _, _, _, _, _, _, _, _, by k_is, by k_is, by k_is, by k_is⟩)
    (case dtotal => exact ⟨_, _, _, _, _, _, _, _, _, _, by k_is, by k_is, by k_is, by k_is⟩)
    (case dcommon_bottom => exact ⟨_, _, _, _, _, _, _, _, _, _, by k_is, by k_is, by k_is, by k_is⟩)
    (case dscaled_by => exact ⟨_, _, _, _, _, _, _, _, _, _, by k_is, by k_is, by k_is, by k_is⟩)
    (case dscaled_row => exact ⟨_, _, _, _, _, _, _, _, _, _, by k_is, by k_is, by k_is, by k_is⟩)
    (case dpivot_from => exact ⟨_, _, _, _, _, _, _, _, _, _, by k_is, by k_is, by k_is, by k_is⟩)
    (case dcleared => exact ⟨_, _, _, _, _, _, _, _, _, _, by k_is, by k_is, by k_is, by k_is⟩)
    (case dreduced => exact ⟨_, _, _, _, _, _, _, _, _, _, by k_is, by k_is, by k_is, by k_is⟩)
    (case dsolved => exact ⟨_, _, _, _, _, _, _, _, _, _, by k_is, by k_is, by k_is, by k_is⟩)
    (case dis_table_row => exact ⟨_, _, _, _, _, _, _, _, _, _, by k_is, by k_is, by k_is, by k_is⟩)
    (case dis_table => exact ⟨_, _, _, _, _, _, _, _, _, _, by k_is, by k_is, by k_is, by k_is⟩)
    (case dleads_to_all => exact ⟨_, _, _, _, _, _, _, _, _, _, by k_is, by k_is, by k_is, by k_is⟩)
    (case dis_whole_table => exact ⟨_, _, _, _, _, _, _, _, _, _, by k_is, by k_is, by k_is, by k_is⟩)
    (case dtree_square => exact ⟨_, _, _, _, _, _, _, _, _, _, by k_is, by k_is, by k_is, by k_is⟩)
    (case dis_mirrored => exact ⟨_, _, _, _, _, _, _, _, _, _, by k_is, by k_is, by k_is, by k_is⟩)
    (case dis_weights => exact ⟨_, _, _, _, _, _, _, _, _, _, by k_is, by k_is, by k_is, by k_is⟩)
    (case dcheck_weights => exact ⟨_, _, _, _, _, _, _, _, _, _, by k_is, by k_is, by k_is, by k_is⟩)
    (case dcheck_place => exact ⟨_, _, _, _, _, _, _, _, _, _, by k_is, by k_is, by k_is, by k_is⟩)
    (case dcheck_ends => exact ⟨_, _, _, _, _, _, _, _, _, _, by k_is, by k_is, by k_is, by k_is⟩)
    (case ddriving_heights => exact ⟨_, _, _, _, _, _, _, _, _, _, by k_is, by k_is, by k_is, by k_is⟩)
    (case dapart => exact ⟨_, _, _, _, _, _, _, _, _, _, by k_is, by k_is, by k_is, by k_is⟩)
    (case din_all => exact ⟨_, _, _, _, _, _, _, _, _, _, by k_is, by k_is, by k_is, by k_is⟩)
    (case dthere_and_back => exact ⟨_, _, _, _, _, _, _, _, _, _, by k_is, by k_is, by k_is, by k_is⟩)
    (case d_law_well => exact ⟨_, _, _, _, _, _, _, _, _, _, by k_is, by k_is, by k_is, by k_is⟩)
    (case d_law_pick => exact ⟨_, _, _, _, _, _, _, _, _, _, by k_is, by k_is, by k_is, by k_is⟩)
    (case d_law_of => exact ⟨_, _, _, _, _, _, _, _, _, _, by k_is, by k_is, by k_is, by k_is⟩)
    (case d_law_frac => exact ⟨_, _, _, _, _, _, _, _, _, _, by k_is, by k_is, by k_is, by k_is⟩)
    (case d_law_plus => exact ⟨_, _, _, _, _, _, _, _, _, _, by k_is, by k_is, by k_is, by k_is⟩)
    (case d_law_times => exact ⟨_, _, _, _, _, _, _, _, _, _, by k_is, by k_is, by k_is, by k_is⟩)
    (case d_law_over => exact ⟨_, _, _, _, _, _, _, _, _, _, by k_is, by k_is, by k_is, by k_is⟩)
    (case d_law_total => exact ⟨_, _, _, _, _, _, _, _, _, _, by k_is, by k_is, by k_is, by k_is⟩)
    (case d_law_over_sum => exact ⟨_, _, _, _, _, _, _, _, _, _, by k_is, by k_is, by k_is, by k_is⟩)
    (case d_law_weight => exact ⟨_, _, _, _, _, _, _, _, _, _, by k_is, by k_is, by k_is, by k_is⟩)
    (case d_law_bonds => exact ⟨_, _, _, _, _, _, _, _, _, _, by k_is, by k_is, by k_is, by k_is⟩)
    (case d_law_walk_by => exact ⟨_, _, _, _, _, _, _, _, _, _, by k_is, by k_is, by k_is, by k_is⟩)
    (case d_law_left_out => exact ⟨_, _, _, _, _, _, _, _, _, _, by k_is, by k_is, by k_is, by k_is⟩)
    (case d_law_far => exact ⟨_, _, _, _, _, _, _, _, _, _, by k_is, by k_is, by k_is, by k_is⟩)
    (case d_law_ends => exact ⟨_, _, _, _, _, _, _, _, _, _, by k_is, by k_is, by k_is, by k_is⟩)
    (case d_law_mean_steps => exact ⟨_, _, _, _, _, _, _, _, _, _, by k_is, by k_is, by k_is, by k_is⟩)
    (case d_law_right => exact ⟨_, _, _, _, _, _, _, _, _, _, by k_is, by k_is, by k_is, by k_is⟩)
    (case dlaw => exact ⟨_, _, _, _, _, _, _, _, _, _, by k_is, by k_is, by k_is, by k_is⟩)
    (case zint => k_is)
    (case zlen => k_is)
    (case zabs => k_is)
    (case zdivmod => k_is)
    (case zrange => k_is)
    (case zenumerate => k_is)
    (case zisinstance => k_is)
    (case zrepr => k_is)
    (case ztuple => k_is)
    (case zlist => k_is)
    (case zall => k_is)
    (case zzip => k_is)
    (case zstr => k_is)
    (case zbool => k_is)
    (case zset => k_is)
    (case zmin => k_is)
    (case zmax => k_is)
    (case zsorted => k_is)
    (case pn => exact ⟨_, _, _, _, _, _, by k_is, by k_is⟩)
    (case po => exact ⟨_, _, _, _, _, _, by k_is, by k_is⟩)
    (case pg => k_is)
    (case pl => k_is)
    (case pm => exact ⟨_, by k_is⟩)
