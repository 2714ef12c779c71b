import PyProof.Rows.All
import Wide.All
import OpenK.AllK
import Wide.FinOn
import HandS.ForMost
import HandS.Evl
import HandS.Style
import HandS.IsInst
import HandS.StrMore
import HandS.Flow
import HandS.Wide
import HandS.Zip
import PyProof.ReprRoads
import HandS.Set
import HandS.SetFor
import PyProof.Rows.SortShellAny
import HandS.Sort
import KE.KIntText
import PySem.Challenge.RW_lastprices_k00_whole_words_of_few_signs
set_option Elab.async false
set_option linter.all false
set_option maxRecDepth 100000
set_option maxHeartbeats 4000000
/-! Lp, part one: a promise that is kept where no repr is under way (A.guards = some []), and the law's end over such promises. -/
namespace Lp
open PySem PySem.Spec PyProof.Rows L2
/-- a def's promise, asked only where no repr is under way -/
structure FnG (P : Program) (w : World) (K : PySem.W.Frag) (mg : Str → Option Value) (base : Heap) (CX : CXT) (k : Nat) (f : Addr) (fd : FuncData) (ps : List Str) (sp : Sp) : Prop where
  len : ∀ vs H Q E, sp vs H Q E → vs.length = ps.length
  go : ∀ (B : Around) (fr : List Env) (st : Shared) (J : Hp) (ar : Args) (ws : List Value) (xs : List V) (R : VK) (Z : XK),
    Room k B → B.guards = some [] → Env0 P w K mg base B fr st J → BindsTo st fd ar (ps.zip ws) → Vals xs ws → sp xs J R Z →
    codeAny (model P w) B (.call (.ref f) ar) (CR CX fr P w J st R Z) st
section
variable {P : Program} {w : World} {K : PySem.W.Frag} {mg : Str → Option Value} {base : Heap} {CX : CXT}
theorem FnG.mono {j k : Nat} {f : Addr} {fd : FuncData} {ps : List Str} {sp : Sp} (F : FnG P w K mg base CX j f fd ps sp) (h : j ≤ k) : FnG P w K mg base CX k f fd ps sp :=
  ⟨F.len, fun B fr st J ar ws xs R Z r => F.go B fr st J ar ws xs R Z (r.mono h)⟩
theorem FnG.of {k : Nat} {f : Addr} {fd : FuncData} {ps : List Str} {sp : Sp} (F : FnOk P w K mg base CX k f fd ps sp) : FnG P w K mg base CX k f fd ps sp :=
  ⟨F.len, fun B fr st J ar ws xs R Z r _ => F.run B fr st J ar ws xs R Z r⟩
/-- the rule for a def, its body walked where no repr is under way -/
theorem okG {x qual : Str} {st : Stmt} {f : Addr} {fd : FuncData} {N ps : List Str} {k : Nat} {sp : Sp} (F : Fun K x qual st f fd) (S : FnScope N ps (defScope st)) (len : ∀ vs H Q E, sp vs H Q E → vs.length = ps.length)
    (body : ∀ (cdv : Value) (B : Around) (fr : List Env) (s : Shared) (J : Hp) (xs : List V) (R : VK) (Z : XK),
      Room k (B.deeper (envOfC qual (defScope st) s.heap.objs.size f cdv)) → (B.deeper (envOfC qual (defScope st) s.heap.objs.size f cdv)).guards = some [] → sp xs J R Z →
      ∃ t, PSs (cxOf CX P w K mg base N qual (defScope st) f cdv B fr s J Z) (defBody st) t ∧ t { nx := fun _ H' => R .non H', rt := R } (start N xs) J) :
    FnG P w K mg base CX (k + 1) f fd ps sp := by
  obtain ⟨oc, od, kV, doc, pm, an, cdv, ct, osl, rfl, lk, hcd⟩ := F.ex
  refine ⟨len, fun B fr s J ar ws xs R Z hr hg e0 hb r hsp => ?_⟩
  have hl := len _ _ _ _ hsp
  have inH : ∀ b o, base.get? b = some o → s.heap.get? b = some o := fun b o e => (e0.bs b o e).1
  have KX : K.In s.heap := e0.mod.kin.keeps inH
  have par : ∀ y ∈ ps.zip ws, (defScope st).names.lookup y.1 = some .local ∨ ((defScope st).names.lookup y.1 = some .cell ∧ ((cellsFrom (s.heap.objs.size + 1) (defScope st).names []).lookup y.1).isSome = true) := fun y hy =>
    (S.par y.1 (List.of_mem_zip (show (y.1, y.2) ∈ ps.zip ws from hy)).1).elim .inl fun q => .inr ⟨q, PySem.W.cellsFrom_some _ _ _ (.inl q)⟩
  refine codeAny_call_function hr.depth (KX _ _ lk) rfl S.co S.gen rfl (PySem.W.codeRec_of KX hcd) (hb _ _ _ _ ?_)
  refine wpAny_newFunctionEnv_cells S.kind par fun en hen s1 c1 => ?_
  subst hen
  refine ⟨(e0.mod.nolimit.keeps inH).keeps c1.toInCall.keep, codeAny_func ?_⟩
  obtain ⟨t, ht, hq⟩ := body cdv B fr s J xs R Z (hr.deeper _) hg hsp
  have I := inv_start (CX := CX) (cd := cdv) (qual := qual) (f := f) (E := Z) S hr.hd e0 hl r c1
  refine wpAny_mono (ht.run [] s1 (start N xs) J _ I hq) (fun fl s2 hs => ?_) fun _ _ z => z
  match fl, hs with
  | .ret u, ⟨v, _, H2, I2, rv, q⟩ => exact ⟨v, H2, I2.os, I2.bare, I2.base, I2.hok, rv, q⟩
  | .next, ⟨_, H2, I2, q⟩ => exact ⟨V.non, H2, I2.os, I2.bare, I2.base, I2.hok, rfl, q⟩
  | .brk, ⟨_, _, _, q⟩ => exact q.elim
  | .cont, ⟨_, _, _, q⟩ => exact q.elim
/-- the same for a def that lets no exception out -/
theorem okN {x qual : Str} {st : Stmt} {f : Addr} {fd : FuncData} {N ps : List Str} {k : Nat} {sp : Sp} (F : Fun K x qual st f fd) (S : FnScope N ps (defScope st)) (len : ∀ vs H Q E, sp vs H Q E → vs.length = ps.length)
    (body : ∀ (cdv : Value) (B : Around) (fr : List Env) (s : Shared) (J : Hp) (xs : List V) (R : VK) (Z : XK),
      Room k (B.deeper (envOfC qual (defScope st) s.heap.objs.size f cdv)) → (B.deeper (envOfC qual (defScope st) s.heap.objs.size f cdv)).guards = some [] → sp xs J R Z →
      ∃ t, PSs (cxOf CX P w K mg base N qual (defScope st) f cdv B fr s J Z).nox (defBody st) t ∧ t { nx := fun _ H' => R .non H', rt := R } (start N xs) J) :
    FnG P w K mg base CX (k + 1) f fd ps sp :=
  okG F S len fun cdv B fr s J xs R Z h1 h2 h3 => by
    obtain ⟨t, a, b⟩ := body cdv B fr s J xs R Z h1 h2 h3
    exact ⟨t, a.nox, b⟩
/-- a call of such a def by its global name -/
theorem callG {X : Cx} {k : Nat} {f : Addr} {fd : FuncData} {ps : List Str} {sp : Sp} {x : Str} {p pos : Pos} {e : Expr} {es : List Expr} {t : TA} {Z : XK} (F : FnG X.prog X.w X.K X.mg X.base CX k f fd ps sp) (hr : Room k X.A) (hgd : X.A.guards = some [])
    (hg : Gl X x) (hm : X.mg x = some (.ref f)) (hk : PySem.W.keepIn X.K (.ref f) = true) (hb : Binds X.K fd ps []) (hx : Passes CX X Z)
    (ha : PA X (e :: es) t) (hdb : (x == ("__debug__" : Str)) = false := by decide) (he : starEach (e :: es) X.env = (false, eval e X.env) :: starEach es X.env := by rfl) (hpl : (backTo pos (starEach es X.env)).any (·.1) = false := by rfl) :
    PE X (.Call (.Name x p) (e :: es) [] pos) (tCall sp [] Z t) := by
  constructor
  intro pins s σ J R I h
  apply wpAny_Call_Name_kw
  refine ld_glob I hg hm ?_ hdb
  refine PySem.W.callWith_K (h₀ := X.base) I.ok.mod.kin hk (thn (ha.run pos pins s σ J _ I h) fun ws s1 z => ?_) he hpl
  obtain ⟨xs, J1, I1, r, q⟩ := z
  refine ⟨I1.kIn, ?_⟩
  have q' : sp xs J1 R Z := by
    have q2 : sp (xs ++ []) J1 R Z := q
    rwa [List.append_nil] at q2
  have bt := hb s1 ws I1.kIn (by rw [List.append_nil, ← r.length]; exact F.len _ _ _ _ q')
  rw [List.append_nil] at bt
  refine wpAny_call (codeAny_mono (F.go X.A X.stack s1 J1 ⟨ws, []⟩ ws xs R Z hr hgd I1.env0 bt r q') fun o s2 w2 => ?_)
  match o, w2 with
  | .error e, w2 => exact hx pins σ J1 s1 e s2 I1 w2
  | .ok (.ret u), w2 => exact I1.after w2
/-- the law's own call -/
theorem law_callG {mb : Str → Option Value} {k : Nat} {fa a : Addr} {fd : FuncData} {x : Str} {sp : Sp} {st : Shared} {vs : List Value} {ns : List Int}
    (KX : K.In st.heap) (hns : st.heap.Ns mainGlobals mg) (hb : st.heap.Ns builtinsNs mb) (hbb : ∀ y : Str, y ≠ "__name__" → mb y = bootBuiltins y) (hlim : st.heap.NoLimit) (hgen : st.gens = #[])
    (ha : st.heap.get? a = some { cls := .type "list", data := .seq vs.toArray }) (hi : IntsAre vs ns) (hl : ns.length ≤ sizeLine) (hr : Room k callerA)
    (F : ∀ b0 : Heap, K.In b0 → b0.Ns mainGlobals mg → FnG P w K mg b0 CX k fa fd [x] sp) (hbind : ∀ (s : Shared) (u : Value), BindsTo s fd ⟨[u], []⟩ [(x, u)])
    (hsp : ∀ J : Hp, Only J → SqL K J a (ns.map V.int) → sp [.ref a] J (fun v _ => v = .bl true) fun _ _ _ => False)
    (hCX : ∀ J e s', CX [] J st (fun _ _ _ => False) e s' → False) :
    codeAny (model P w) callerA (.call (.ref fa) ⟨[.ref a], []⟩) (fun r s' => r = .ok (.ret (.bool true)) ∧ OldK st.heap s'.heap ∧ s'.os = st.os ∧ AllBare s'.gens) st := by
  have rv := vals_ints hi
  have lv := hi.length
  -- J tracks the script at most
  have main : ∀ J : Hp, Only J → SqL K J a (ns.map V.int) → HOk P w J st.heap → (∀ b, J b ≠ none → b = a) → (J a ≠ none → K.lookup a = none) →
      codeAny (model P w) callerA (.call (.ref fa) ⟨[.ref a], []⟩) (fun r s' => r = .ok (.ret (.bool true)) ∧ OldK st.heap s'.heap ∧ s'.os = st.os ∧ AllBare s'.gens) st := by
    intro J hO hS hok hA hK
    have seen : ∀ b, J b = none ∨ b = a := fun b => by
      cases q : J b with
      | none => exact .inl rfl
      | some u => exact .inr (hA b (by rw [q]; exact Option.some_ne_none u))
    have dn : ∀ {b : Addr} {o : Obj} {es : Array DictEntry} {ep : Nat}, st.heap.get? b = some o → o.data = .dict es ep → J b = none := fun {b o es ep} e d => (seen b).elim id fun z => by
      subst z
      rw [ha] at e
      cases e
      exact nomatch (show Data.seq vs.toArray _ = Data.dict es ep from d)
    have nsT : ∀ {b : Addr} {m : Str → Option Value}, st.heap.Ns b m → (hidT st.heap J).Ns b m := fun ⟨o, es, ep, e, d, r⟩ => ⟨o, es, ep, hidT_get e (dn e d), d, r⟩
    have kT : K.In (hidT st.heap J) := fun b o e => hidT_get (KX b o e) ((seen b).elim id fun z => by
      subst z
      cases q : J b with
      | none => rfl
      | some u =>
        have := hK (by rw [q]; exact Option.some_ne_none u)
        rw [e] at this
        cases this)
    obtain ⟨mc, l1, l2⟩ := hlim
    have env : Env0 P w K mg (hidT st.heap J) callerA [] st J :=
      ⟨rfl, ⟨kT, nsT hns, ⟨mb, nsT hb, hbb⟩, ⟨mc, nsT l1, l2⟩⟩, fun b o e => of_hidT e, Nat.le_of_eq (hidT_size _ _), trivial, fun b z => (List.not_mem_nil z).elim, hok, .of_eq hgen⟩
    refine codeAny_mono ((F _ kT (nsT hns)).go callerA [] st J ⟨[.ref a], []⟩ [.ref a] [.ref a] _ _ hr rfl env (hbind st (.ref a)) (.cons rfl .nil) (hsp J hO hS)) fun r s' h => ?_
    match r, h with
    | .error e, h => exact (hCX J e s' h).elim
    | .ok (.ret u), ⟨v, J2, os, bare, un, hok2, r2, q⟩ =>
      have q2 : v = .bl true := q
      subst q2
      have r3 : u = Value.bool true := r2
      subst r3
      refine ⟨rfl, OldK.of_keep fun b o e => ?_, os, bare⟩
      rcases hO b with z | ⟨ob, xs, z⟩
      · exact un.keep b o e z (fun y => (List.not_mem_nil y).elim) (fun y => (List.not_mem_nil y).elim)
      · have f1 := (hok b _ z).1
        have f2 := (hok2 b _ (un.frzs b ob _ z)).1
        rw [e] at f1
        cases f1
        exact f2
  cases hk : K.lookup a with
  | some o =>
    have e := KX a o hk
    rw [ha] at e
    cases e
    refine main (fun _ => none) (fun _ => .inl rfl) (.inr ⟨_, vs.toArray, _, hk, rfl, rfl, rfl, by rw [List.size_toArray, lv]; exact hl, by simpa using rv⟩) (fun b u z => ?_) (fun b z => (z rfl).elim) (fun z => (z rfl).elim)
    cases (show (none : Option HO) = some u from z)
  | none =>
    have on : ∀ {b : Addr} {u : HO}, (if b = a then some (HO.frz { cls := .type "list", data := .seq vs.toArray } (.lst (ns.map V.int))) else none) = some u → b = a ∧ u = HO.frz { cls := .type "list", data := .seq vs.toArray } (.lst (ns.map V.int)) := fun {b u} z => by
      by_cases hb : b = a
      · rw [if_pos hb] at z
        exact ⟨hb, (Option.some.inj z).symm⟩
      · rw [if_neg hb] at z
        cases z
    refine main (fun b => if b = a then some (.frz { cls := .type "list", data := .seq vs.toArray } (.lst (ns.map V.int))) else none) (fun b => ?_) (.inl (.inr ⟨_, if_pos rfl⟩)) (fun b u z => ?_) (fun b z => ?_) fun _ => hk
    · by_cases hb : b = a
      · exact .inr ⟨_, _, if_pos hb⟩
      · exact .inl (if_neg hb)
    · obtain ⟨rfl, rfl⟩ := on z
      exact ⟨ha, by rw [List.length_map]; exact hl, vs, _, rv, ha⟩
    · by_cases hb : b = a
      · exact hb
      · exact (z (if_neg hb)).elim
end
/-- the goal that the head leaves, from the law's promise -/
theorem walkG {l : PySem.W.OpenLaw} {n k : Nat} {q : Program} {loose : List Str} {XP : (Str → Option Value) → Heap → Prop} {YP : World → Heap → Prop} {d : DefRec} {K : Params → PySem.W.Frag} {CX : World → CXT} {sp : World → Sp} {x : Str}
    (hn : l.most = some n) (hn2 : n ≤ sizeLine) (hdf : d.params.defaults = []) (hr : Room k callerA) (hY : ∀ (w : World) (h : Heap), YP w h → (K w.params).In h)
    (F : ∀ (w : World) (mg : Str → Option Value) (fa : Addr) (h : Heap), (K w.params).In h → h.Ns mainGlobals mg → mg d.name = some (.ref fa) →
      ∃ fd : FuncData, (∀ (s : Shared) (u : Value), BindsTo s fd ⟨[u], []⟩ [(x, u)]) ∧ ∀ b0 : Heap, (K w.params).In b0 → b0.Ns mainGlobals mg → FnG l.prog w (K w.params) mg b0 (CX w) k fa fd [x] (sp w))
    (hsp : ∀ (w : World) (J : Hp) (a : Addr) (ns : List Int), ns.length ≤ n → Only J → SqL (K w.params) J a (ns.map V.int) → sp w [.ref a] J (fun v _ => v = .bl true) fun _ _ _ => False)
    (hCX : ∀ (w : World) (J : Hp) (s : Shared) (e : Value) (s' : Shared), CX w [] J s (fun _ _ _ => False) e s' → False) :
    PySem.W.WalkO q loose XP YP l.row.toRowW d [] (fun f vs => PySem.call f vs) :=
  Att.attach_call hn hdf fun w s0 s1 mg mb fa o pm cd doc a vs ns G Y ho hd hcd hmg hobj hints hlen hgen => by
    have KX := hY w _ Y
    obtain ⟨fd, hb, hF⟩ := F w mg fa _ KX G.T.g hmg
    exact law_callG KX G.T.g G.T.b G.T.builtins G.T.nolimit hgen hobj hints (Nat.le_trans hlen hn2) hr hF hb (fun J hO hS => hsp w J a ns hlen hO hS) fun J e s' => hCX w J s1 e s'
end Lp
set_option Elab.async false
set_option linter.all false
set_option maxRecDepth 100000
set_option maxHeartbeats 4000000
/-! Lp, part two: what an expression gives, as plain data; the list of dice may change, all else stays. -/
namespace Lp
open PySem PySem.Spec L2
/-! ### the heap without the dice and without what is being filled -/
structure Mt where
  d : Option Addr
  o : List Addr
abbrev OA := Mt
abbrev no : Mt := ⟨none, []⟩
abbrev Mt.add (p : Mt) (q : Addr) : Mt := ⟨p.d, q :: p.o⟩
def Hid (p : Mt) (b : Addr) : Prop := p.d = some b ∨ b ∈ p.o
instance {p : Mt} {b : Addr} : Decidable (Hid p b) := inferInstanceAs (Decidable (p.d = some b ∨ b ∈ p.o))
def del (p : Mt) (H : Hp) : Hp := fun b => if Hid p b then none else H b
theorem del_of {p : Mt} {H : Hp} {b : Addr} {o : HO} (h : del p H b = some o) : H b = some o := by
  unfold del at h
  split at h
  · cases h
  · exact h
theorem del_no {p : Mt} {H : Hp} {b : Addr} {o : HO} (h : del p H b = some o) : ¬ Hid p b := fun z => by
  unfold del at h
  rw [if_pos z] at h
  cases h
theorem del_at {p : Mt} {H : Hp} {b : Addr} (h : ¬ Hid p b) : del p H b = H b := if_neg h
theorem del_none {H : Hp} : del no H = H := by
  funext b
  exact if_neg (fun e => e.elim (fun z => nomatch z) (fun z => nomatch z))
/-- what is not there need not be hidden -/
theorem del_add {p : Mt} {H : Hp} {q : Addr} (h : H q = none) : del (p.add q) H = del p H := by
  funext b
  unfold del
  by_cases e : b = q
  · subst e
    rw [if_pos (show Hid (p.add b) b from Or.inr List.mem_cons_self), h]
    split <;> rfl
  · by_cases f : Hid p b
    · rw [if_pos f, if_pos (show Hid (p.add q) b from f.imp id (List.mem_cons_of_mem _))]
    · rw [if_neg f, if_neg (show ¬ Hid (p.add q) b from fun z => f (z.imp id fun y => (List.mem_cons.mp y).resolve_left e))]
def Dice (H : Hp) (a : Addr) : Prop := ∃ l s c : Int, H a = some (.lst [.int l, .int s, .int c])
structure DOk (p : Mt) (H : Hp) : Prop where
  di : ∀ a, p.d = some a → Dice H a
  lv : ∀ a ∈ p.o, H a ≠ none
theorem dok_none {H : Hp} : DOk no H := ⟨fun _ e => (nomatch e), fun _ e => (nomatch e)⟩
theorem DOk.ne {p : Mt} {H : Hp} {q : Addr} (d : DOk p H) (h : H q = none) : ¬ Hid p q := fun e => by
  rcases e with e | e
  · obtain ⟨l, s, c, z⟩ := d.di q e
    rw [h] at z
    cases z
  · exact d.lv q e h
structure Go (p : Mt) (H H' : Hp) : Prop where
  ex : ∀ a o, p.d ≠ some a → H a = some o → H' a = some o
  dk : DOk p H'
theorem Go.exd {p : Mt} {H H' : Hp} (g : Go p H H') : ∀ a o, del p H a = some o → del p H' a = some o := fun a o e => by
  have n := del_no e
  rw [del_at n] at e ⊢
  exact g.ex a o (fun z => n (.inl z)) e
theorem Go.refl {p : Mt} {H : Hp} (d : DOk p H) : Go p H H := ⟨fun _ _ _ h => h, d⟩
theorem Go.trans {p : Mt} {H H1 H2 : Hp} (a : Go p H H1) (b : Go p H1 H2) : Go p H H2 := ⟨fun x o n h => b.ex x o n (a.ex x o n h), b.dk⟩
theorem Go.free {p : Mt} {H H' : Hp} {q : Addr} (g : Go p H H') (h : H' q = none) : H q = none := by
  have n := g.dk.ne h
  cases e : H q with
  | none => rfl
  | some o =>
    have z := g.ex q o (fun y => n (.inl y)) e
    rw [h] at z
    cases z
/-- an object that H does not know is written -/
theorem Go.put {p : Mt} {H H' : Hp} {q : Addr} {o : HO} (d : DOk p H) (g : Go p H H') (h : H q = none) : Go p H (upd H' q o) := by
  have n := d.ne h
  refine ⟨fun a u na e => ?_, fun a e => ?_, fun a m => ?_⟩
  · rw [upd_ne (ne_of_none e h)]
    exact g.ex a u na e
  · obtain ⟨l, s, c, z⟩ := g.dk.di a e
    have na : a ≠ q := fun y => n (.inl (by rw [e, y]))
    exact ⟨l, s, c, by rw [upd_ne na]; exact z⟩
  · by_cases na : a = q
    · rw [na, upd_same]
      exact Option.some_ne_none o
    · rw [upd_ne na]
      exact g.dk.lv a m
theorem Go.new {p : Mt} {H : Hp} {q : Addr} {o : HO} (d : DOk p H) (h : H q = none) : Go p H (upd H q o) := Go.put d (.refl d) h
theorem del_upd {p : Mt} {H H' : Hp} {q : Addr} {o : HO} (d : DOk p H) (h : H q = none) : del p (upd H' q o) q = some o := by
  rw [del_at (d.ne h)]
  exact upd_same
theorem Go.same {p : Mt} {H H' : Hp} (d : DOk p H) (h : ∀ b o, H b = some o → H' b = some o) : Go p H H' := by
  refine ⟨fun a o _ e => h a o e, fun a e => ?_, fun a m z => ?_⟩
  · obtain ⟨l, s, c, z⟩ := d.di a e
    exact ⟨l, s, c, h a _ z⟩
  · cases e : H a with
    | none => exact d.lv a m e
    | some o =>
      rw [h a o e] at z
      cases z
/-- from a wider context to a narrower one, and back where q was not there -/
theorem Go.sub {p : Mt} {H H' : Hp} {q : Addr} (g : Go (p.add q) H H') : Go p H H' := ⟨g.ex, g.dk.di, fun a m => g.dk.lv a (List.mem_cons_of_mem _ m)⟩
theorem Go.sup {p : Mt} {H H' : Hp} {q : Addr} (g : Go p H H') (h : H' q ≠ none) : Go (p.add q) H H' := ⟨g.ex, g.dk.di, fun a m => (List.mem_cons.mp m).elim (fun e => e ▸ h) (g.dk.lv a)⟩
/-- a list, a tuple that does not change -/
theorem sl_del {K : PySem.W.Frag} {p : OA} {H : Hp} {a : Addr} {xs : List V} (h : SqL K (del p H) a xs) : SqL K H a xs := by
  rcases h with (h | ⟨o, h⟩) | h
  · exact .inl (.inl (del_of h))
  · exact .inl (.inr ⟨o, del_of h⟩)
  · exact .inr h
theorem tu_del {K : PySem.W.Frag} {p : OA} {H : Hp} {a : Addr} {xs : List V} (h : SqT K (del p H) a xs) : SqT K H a xs := by
  rcases h with (h | ⟨o, h⟩) | h
  · exact .inl (.inl (del_of h))
  · exact .inl (.inr ⟨o, del_of h⟩)
  · exact .inr h
theorem sl_ex {K : PySem.W.Frag} {H H' : Hp} {a : Addr} {xs : List V} (e : ∀ a o, H a = some o → H' a = some o) (h : SqL K H a xs) : SqL K H' a xs := by
  rcases h with (h | ⟨o, h⟩) | h
  · exact .inl (.inl (e _ _ h))
  · exact .inl (.inr ⟨o, e _ _ h⟩)
  · exact .inr h
theorem tu_ex {K : PySem.W.Frag} {H H' : Hp} {a : Addr} {xs : List V} (e : ∀ a o, H a = some o → H' a = some o) (h : SqT K H a xs) : SqT K H' a xs := by
  rcases h with (h | ⟨o, h⟩) | h
  · exact .inl (.inl (e _ _ h))
  · exact .inl (.inr ⟨o, e _ _ h⟩)
  · exact .inr h
theorem ls_q {K : PySem.W.Frag} {p : OA} {H : Hp} {a : Addr} {xs : List V} (h : del p H a = some (.lst xs)) : SqL K H a xs := .inl (.inl (del_of h))
/-! ### plain data -/
def kD : Key → PyData
  | .inl i => .int i
  | .inr x => .str x
mutual
inductive Rep (K : PySem.W.Frag) (H : Hp) : V → PyData → Prop
  | non : Rep K H .non .none
  | bl (b : Bool) : Rep K H (.bl b) (.bool b)
  | int (i : Int) : Rep K H (.int i) (.int i)
  | str (x : Str) : Rep K H (.str x) (.str x)
  | lst {a : Addr} {xs : List V} {ds : List PyData} : H a = some (.lst xs) → Reps K H xs ds → Rep K H (.ref a) (.list ds)
  | tup {a : Addr} {xs : List V} {ds : List PyData} : SqT K H a xs → Reps K H xs ds → Rep K H (.ref a) (.tuple ds)
  | dic {a : Addr} {kvs : List (Key × V)} {es : List (PyData × PyData)} : H a = some (.dK kvs) → RepKv K H kvs es → Rep K H (.ref a) (.dict es)
inductive Reps (K : PySem.W.Frag) (H : Hp) : List V → List PyData → Prop
  | nil : Reps K H [] []
  | cons {v : V} {vs : List V} {d : PyData} {ds : List PyData} : Rep K H v d → Reps K H vs ds → Reps K H (v :: vs) (d :: ds)
inductive RepKv (K : PySem.W.Frag) (H : Hp) : List (Key × V) → List (PyData × PyData) → Prop
  | nil : RepKv K H [] []
  | cons {k : Key} {v : V} {d : PyData} {kvs : List (Key × V)} {es : List (PyData × PyData)} : Rep K H v d → RepKv K H kvs es → RepKv K H ((k, v) :: kvs) ((kD k, d) :: es)
end
section
variable {K : PySem.W.Frag} {H H' : Hp}
mutual
theorem Rep.mono (e : ∀ a o, H a = some o → H' a = some o) : ∀ {v : V} {d : PyData}, Rep K H v d → Rep K H' v d
  | _, _, .non => .non
  | _, _, .bl b => .bl b
  | _, _, .int i => .int i
  | _, _, .str x => .str x
  | _, _, .lst h r => .lst (e _ _ h) (Reps.mono e r)
  | _, _, .tup h r => .tup (tu_ex e h) (Reps.mono e r)
  | _, _, .dic h r => .dic (e _ _ h) (RepKv.mono e r)
theorem Reps.mono (e : ∀ a o, H a = some o → H' a = some o) : ∀ {vs : List V} {ds : List PyData}, Reps K H vs ds → Reps K H' vs ds
  | _, _, .nil => .nil
  | _, _, .cons h r => .cons (Rep.mono e h) (Reps.mono e r)
theorem RepKv.mono (e : ∀ a o, H a = some o → H' a = some o) : ∀ {vs : List (Key × V)} {ds : List (PyData × PyData)}, RepKv K H vs ds → RepKv K H' vs ds
  | _, _, .nil => .nil
  | _, _, .cons h r => .cons (Rep.mono e h) (RepKv.mono e r)
end
theorem Rep.go {p : OA} {v : V} {d : PyData} (g : Go p H H') (h : Rep K (del p H) v d) : Rep K (del p H') v d := h.mono g.exd
theorem Reps.go {p : OA} {v : List V} {d : List PyData} (g : Go p H H') (h : Reps K (del p H) v d) : Reps K (del p H') v d := h.mono g.exd
theorem del_le {p : OA} {q : Addr} : ∀ a o, del (p.add q) H a = some o → del p H a = some o := fun a o e => by
  have n := del_no e
  rw [del_at n] at e
  rw [del_at (show ¬ Hid p a from fun z => n (Or.imp id (List.mem_cons_of_mem _) z))]
  exact e
theorem del_put {p : OA} {q : Addr} {o : HO} : ∀ a u, del (p.add q) H a = some u → del (p.add q) (upd H q o) a = some u := fun a u e => by
  have n := del_no e
  have na : a ≠ q := fun z => n (.inr (z ▸ List.mem_cons_self))
  rw [del_at n] at e ⊢
  rw [upd_ne na]
  exact e
theorem Rep.add {p : OA} {v : V} {d : PyData} {q : Addr} (h : Rep K (del p H) v d) (hq : H q = none) : Rep K (del (p.add q) H) v d := by rw [del_add hq]; exact h
theorem Reps.add {p : OA} {v : List V} {d : List PyData} {q : Addr} (h : Reps K (del p H) v d) (hq : H q = none) : Reps K (del (p.add q) H) v d := by rw [del_add hq]; exact h
theorem Rep.sub {p : OA} {v : V} {d : PyData} {q : Addr} (h : Rep K (del (p.add q) H) v d) : Rep K (del p H) v d := h.mono del_le
theorem Reps.sub {p : OA} {v : List V} {d : List PyData} {q : Addr} (h : Reps K (del (p.add q) H) v d) : Reps K (del p H) v d := h.mono del_le
theorem Reps.len {vs : List V} {ds : List PyData} (h : Reps K H vs ds) : vs.length = ds.length := by
  induction vs generalizing ds with
  | nil =>
    cases h
    rfl
  | cons v r ih =>
    cases h with
    | cons a b => exact congrArg (· + 1) (ih b)
theorem Reps.get {vs : List V} {ds : List PyData} (h : Reps K H vs ds) : ∀ {i : Nat} {v : V}, vs[i]? = some v → ∃ d, ds[i]? = some d ∧ Rep K H v d := by
  induction vs generalizing ds with
  | nil => exact fun e => by simp at e
  | cons u r ih =>
    cases h with
    | cons a b =>
      intro i v e
      cases i with
      | zero => exact ⟨_, rfl, by cases e; exact a⟩
      | succ j => exact ih b e
theorem Reps.app {vs us : List V} {ds es : List PyData} (h : Reps K H vs ds) (h2 : Reps K H us es) : Reps K H (vs ++ us) (ds ++ es) := by
  induction vs generalizing ds with
  | nil =>
    cases h
    exact h2
  | cons u r ih =>
    cases h with
    | cons a b => exact .cons a (ih b)
theorem reps_ints {vs : List V} {ns : List Int} (h : Reps K H vs (ns.map PyData.int)) : vs = ns.map V.int := by
  induction ns generalizing vs with
  | nil =>
    cases h
    rfl
  | cons n r ih =>
    cases h with
    | cons a b =>
      cases a
      rw [ih b]
      rfl
theorem ints_reps : ∀ ns : List Int, Reps K H (ns.map V.int) (ns.map PyData.int)
  | [] => .nil
  | n :: r => .cons (.int n) (ints_reps r)
theorem strs_reps : ∀ ns : List Str, Reps K H (ns.map V.str) (ns.map PyData.str)
  | [] => .nil
  | n :: r => .cons (.str n) (strs_reps r)
theorem reps_strs {vs : List V} {ns : List Str} (h : Reps K H vs (ns.map PyData.str)) : vs = ns.map V.str := by
  induction ns generalizing vs with
  | nil =>
    cases h
    rfl
  | cons n r ih =>
    cases h with
    | cons a b =>
      cases a
      rw [ih b]
      rfl
end
class Enc (α : Type) where
  toD : α → PyData
abbrev enc {α : Type} [Enc α] (a : α) : PyData := Enc.toD a
instance : Enc PyData := ⟨fun d => d⟩
instance : Enc Int := ⟨.int⟩
instance : Enc Bool := ⟨.bool⟩
instance : Enc Str := ⟨.str⟩
instance : Enc Unit := ⟨fun _ => .none⟩
instance {α : Type} [Enc α] : Enc (List α) := ⟨fun l => .list (l.map enc)⟩
/-! ### readings by the text itself -/
structure SemE (X : Cx) (e : Expr) (σ : St) (H : Hp) (Q : VK) : Prop where
  run : ∀ (pins : List (Addr × Obj)) (s : Shared), Inv X pins σ H s → wpAny (model X.prog X.w) X.A (eval e X.env) (EP X pins σ Q) X.xe s
structure SemT (X : Cx) (e : Expr) (σ : St) (H : Hp) (Q : Bool → Hp → Prop) : Prop where
  run : ∀ (pins : List (Addr × Obj)) (s : Shared), Inv X pins σ H s → wpAny (model X.prog X.w) X.A (isTrue e X.env (eval e X.env)) (TP X pins σ Q) X.xe s
structure SemA (X : Cx) (es : List Expr) (σ : St) (H : Hp) (Q : List V → Hp → Prop) : Prop where
  run : ∀ (pos : Pos) (pins : List (Addr × Obj)) (s : Shared), Inv X pins σ H s → wpAny (model X.prog X.w) X.A (spliced (backTo pos (starEach es X.env))) (AP X pins σ Q) X.xe s
structure SemS (X : Cx) (st : Stmt) (D : Ends) (σ : St) (H : Hp) : Prop where
  run : ∀ (pins : List (Addr × Obj)) (s : Shared), Inv X pins σ H s → wpAny (model X.prog X.w) X.A (exec st X.env) (SP X pins D) X.xe s
structure SemSs (X : Cx) (st : List Stmt) (D : Ends) (σ : St) (H : Hp) : Prop where
  run : ∀ (pins : List (Addr × Obj)) (s : Shared), Inv X pins σ H s → wpAny (model X.prog X.w) X.A (execs st X.env) (SP X pins D) X.xe s
section
variable {X : Cx}
theorem semE {e : Expr} : PE X e (SemE X e) := ⟨fun pins s _ _ _ I h => h.run pins s I⟩
theorem semT {e : Expr} : PT X e (SemT X e) := ⟨fun pins s _ _ _ I h => h.run pins s I⟩
theorem semA {es : List Expr} : PA X es (SemA X es) := ⟨fun pos pins s _ _ _ I h => h.run pos pins s I⟩
theorem semS {st : Stmt} : PS X st (SemS X st) := ⟨fun pins s _ _ _ I h => h.run pins s I⟩
theorem semSs {st : List Stmt} : PSs X st (SemSs X st) := ⟨fun pins s _ _ _ I h => h.run pins s I⟩
theorem of_pe {e : Expr} {t : TE} {σ : St} {H : Hp} {Q : VK} (h : PE X e t) (q : t σ H Q) : SemE X e σ H Q := ⟨fun pins s I => h.run pins s σ H Q I q⟩
theorem of_pt {e : Expr} {t : TT} {σ : St} {H : Hp} {Q : Bool → Hp → Prop} (h : PT X e t) (q : t σ H Q) : SemT X e σ H Q := ⟨fun pins s I => h.run pins s σ H Q I q⟩
theorem of_pa {es : List Expr} {t : TA} {σ : St} {H : Hp} {Q : List V → Hp → Prop} (h : PA X es t) (q : t σ H Q) : SemA X es σ H Q := ⟨fun pos pins s I => h.run pos pins s σ H Q I q⟩
theorem of_ps {st : Stmt} {t : TS} {σ : St} {H : Hp} {D : Ends} (h : PS X st t) (q : t D σ H) : SemS X st D σ H := ⟨fun pins s I => h.run pins s σ H D I q⟩
theorem of_pss {st : List Stmt} {t : TS} {σ : St} {H : Hp} {D : Ends} (h : PSs X st t) (q : t D σ H) : SemSs X st D σ H := ⟨fun pins s I => h.run pins s σ H D I q⟩
end
end Lp
set_option Elab.async false
set_option linter.all false
set_option maxRecDepth 100000
set_option maxHeartbeats 4000000
/-! Lp, part three: judgements on the text itself. JE: an expression gives data of which P holds. -/
namespace Lp
open PySem PySem.Spec L2
def JE {α : Type} [Enc α] (X : Cx) (p : OA) (e : Expr) (σ : St) (H : Hp) (P : α → Prop) : Prop :=
  ∀ H1, Go p H H1 → ∀ Q : VK, (∀ v H2 a, Go p H1 H2 → P a → Rep X.K (del p H2) v (enc a) → Q v H2) → SemE X e σ H1 Q
abbrev JV {α : Type} [Enc α] (X : Cx) (p : OA) (e : Expr) (σ : St) (H : Hp) (a : α) : Prop := JE X p e σ H (fun b : α => b = a)
def JT (X : Cx) (p : OA) (e : Expr) (σ : St) (H : Hp) (P : Bool → Prop) : Prop :=
  ∀ H1, Go p H H1 → ∀ Q : Bool → Hp → Prop, (∀ b H2, Go p H1 H2 → P b → Q b H2) → SemT X e σ H1 Q
abbrev JTV (X : Cx) (p : OA) (e : Expr) (σ : St) (H : Hp) (b : Bool) : Prop := JT X p e σ H (fun c => c = b)
def JA (X : Cx) (p : OA) (es : List Expr) (σ : St) (H : Hp) (P : List PyData → Prop) : Prop :=
  ∀ H1, Go p H H1 → ∀ Q : List V → Hp → Prop, (∀ vs H2 ds, Go p H1 H2 → P ds → Reps X.K (del p H2) vs ds → Q vs H2) → SemA X es σ H1 Q
section
variable {X : Cx} {p : OA} {σ : St} {H H' : Hp} {e a b c : Expr} {es : List Expr} {pos ps : Pos} {α β γ : Type} [Enc α] [Enc β] [Enc γ]
theorem JE.imp {P P' : α → Prop} (h : JE X p e σ H P) (i : ∀ a, P a → P' a) : JE X p e σ H P' := fun H1 g Q q => h H1 g Q fun v H2 a g2 pa r => q v H2 a g2 (i a pa) r
theorem JE.conv {P : α → Prop} {P' : β → Prop} (h : JE X p e σ H P) (i : ∀ a, P a → ∃ b, enc a = enc b ∧ P' b) : JE X p e σ H P' := fun H1 g Q q => h H1 g Q fun v H2 a g2 pa r => by
  obtain ⟨b, e, pb⟩ := i a pa
  exact q v H2 b g2 pb (by rw [← e]; exact r)
theorem JV.to {x y : α} (h : JV X p e σ H x) (e' : x = y) : JV X p e σ H y := e' ▸ h
theorem JE.mono {P : α → Prop} (h : JE X p e σ H P) (g : Go p H H') : JE X p e σ H' P := fun H1 g1 Q q => h H1 (g.trans g1) Q q
theorem JT.imp {P P' : Bool → Prop} (h : JT X p e σ H P) (i : ∀ a, P a → P' a) : JT X p e σ H P' := fun H1 g Q q => h H1 g Q fun b H2 g2 pb => q b H2 g2 (i b pb)
theorem JTV.to {x y : Bool} (h : JTV X p e σ H x) (e' : x = y) : JTV X p e σ H y := e' ▸ h
theorem JT.mono {P : Bool → Prop} (h : JT X p e σ H P) (g : Go p H H') : JT X p e σ H' P := fun H1 g1 Q q => h H1 (g.trans g1) Q q
theorem JA.mono {P : List PyData → Prop} (h : JA X p es σ H P) (g : Go p H H') : JA X p es σ H' P := fun H1 g1 Q q => h H1 (g.trans g1) Q q
/-! ### names and constants -/
theorem v_var {x : Str} (i : Nat) {v : V} {a : α} (hs : σ[i]? = some (some v)) (r : Rep X.K (del p H) v (enc a)) (hN : X.N[i]? = some x := by rfl) (hv : Vis X.env.scope x := by first | exact Or.inl rfl | exact Or.inr (Or.inl rfl) | exact Or.inr (Or.inr rfl))
    (hd : (x == ("__debug__" : Str)) = false := by decide) (hcd : (x == ("__classdict__" : Str)) = false := by decide) : JV X p (.Name x pos) σ H a := fun H1 g Q q =>
  of_pe (pv i hN hv hd hcd) ⟨v, hs, q v H1 a (.refl g.dk) rfl (r.go g)⟩
theorem v_int {i : Int} {k} : JV X p (.Constant (.int i) k pos) σ H i := fun H1 g Q q => of_pe pe_int (q _ H1 i (.refl g.dk) rfl (.int i))
theorem v_str {i : Str} {k} : JV X p (.Constant (.str i) k pos) σ H i := fun H1 g Q q => of_pe pe_str (q _ H1 i (.refl g.dk) rfl (.str i))
theorem v_bool {i : Bool} {k} : JV X p (.Constant (.bool i) k pos) σ H i := fun H1 g Q q => of_pe pe_bl (q _ H1 i (.refl g.dk) rfl (.bl i))
theorem v_none {k} : JV X p (.Constant .none k pos) σ H () := fun H1 g Q q => of_pe pe_non (q _ H1 () (.refl g.dk) rfl .non)
theorem v_glob {x : Str} {v : V} {u : Value} {a : α} (hg : Gl X x) (hm : X.mg x = some u) (r : RelV v u) (hr : ∀ J, Rep X.K J v (enc a)) (hd : (x == ("__debug__" : Str)) = false := by decide) : JV X p (.Name x pos) σ H a := fun H1 g Q q =>
  of_pe (pe_glob hg hm r hd) (q _ H1 a (.refl g.dk) rfl (hr _))
/-! ### ints -/
theorem rep_int {K : PySem.W.Frag} {J : Hp} {v : V} {i : Int} (h : Rep K J v (enc i)) : v = .int i := by cases h; rfl
theorem rep_bool {K : PySem.W.Frag} {J : Hp} {v : V} {i : Bool} (h : Rep K J v (enc i)) : v = .bl i := by cases h; rfl
theorem rep_str {K : PySem.W.Frag} {J : Hp} {v : V} {i : Str} (h : Rep K J v (enc i)) : v = .str i := by cases h; rfl
/-- an operation of two ints -/
theorem j_opI {op : Operator} {C : Int → Int → Prop} {f : Int → Int → Int} {A B : Int → Prop} (ho : OpR X (binaryOp op) (rI C fun i j => .int (f i j))) (ha : JE X p a σ H A) (hb : JE X p b σ H B) (hc : ∀ i j, A i → B j → C i j) :
    JE X p (.BinOp a op b pos) σ H (fun k : Int => ∃ i j, A i ∧ B j ∧ k = f i j) := fun H1 g Q q =>
  of_pe (pe_op ho semE semE) (ha H1 g _ fun v H2 i g2 pi r => hb H2 (g.trans g2) _ fun w H3 j g3 pj r' => by
    cases rep_int r
    cases rep_int r'
    exact ⟨i, j, rfl, rfl, hc i j pi pj, q _ H3 (f i j) (g2.trans g3) ⟨i, j, pi, pj, rfl⟩ (.int _)⟩)
theorem j_opI0 {op : Operator} {f : Int → Int → Int} {A B : Int → Prop} (ho : OpR X (binaryOp op) (rI0 fun i j => .int (f i j))) (ha : JE X p a σ H A) (hb : JE X p b σ H B) :
    JE X p (.BinOp a op b pos) σ H (fun k : Int => ∃ i j, A i ∧ B j ∧ k = f i j) := fun H1 g Q q =>
  of_pe (pe_op ho semE semE) (ha H1 g _ fun v H2 i g2 pi r => hb H2 (g.trans g2) _ fun w H3 j g3 pj r' => by
    cases rep_int r
    cases rep_int r'
    exact ⟨i, j, rfl, rfl, q _ H3 (f i j) (g2.trans g3) ⟨i, j, pi, pj, rfl⟩ (.int _)⟩)
theorem det2 {δ : Type} {A : α → Prop} {B : β → Prop} {x : α} {y : β} {f : α → β → δ} {k : δ} (h : ∃ i j, i = x ∧ j = y ∧ k = f i j) : k = f x y := by
  obtain ⟨_, _, rfl, rfl, rfl⟩ := h
  rfl
section
variable {A B : Int → Prop} {x y : Int}
theorem j_add (ha : JE X p a σ H A) (hb : JE X p b σ H B) : JE X p (.BinOp a .Add b pos) σ H (fun k : Int => ∃ i j, A i ∧ B j ∧ k = i + j) := j_opI0 op_add ha hb
theorem j_sub (ha : JE X p a σ H A) (hb : JE X p b σ H B) : JE X p (.BinOp a .Sub b pos) σ H (fun k : Int => ∃ i j, A i ∧ B j ∧ k = i - j) := j_opI0 op_sub ha hb
theorem v_add (ha : JV X p a σ H x) (hb : JV X p b σ H y) : JV X p (.BinOp a .Add b pos) σ H (x + y) := (j_add ha hb).imp fun k h => by obtain ⟨_, _, rfl, rfl, rfl⟩ := h; rfl
theorem v_sub (ha : JV X p a σ H x) (hb : JV X p b σ H y) : JV X p (.BinOp a .Sub b pos) σ H (x - y) := (j_sub ha hb).imp fun k h => by obtain ⟨_, _, rfl, rfl, rfl⟩ := h; rfl
theorem v_mul (ha : JV X p a σ H x) (hb : JV X p b σ H y) (hc : CMul x y) : JV X p (.BinOp a .Mult b pos) σ H (x * y) := (j_opI op_mul ha hb fun i j e1 e2 => by rw [e1, e2]; exact hc).imp fun k h => by obtain ⟨_, _, rfl, rfl, rfl⟩ := h; rfl
theorem v_mulW (ha : JV X p a σ H x) (hb : JV X p b σ H y) (hc : CMulW x y) : JV X p (.BinOp a .Mult b pos) σ H (x * y) := (j_opI op_mulW ha hb fun i j e1 e2 => by rw [e1, e2]; exact hc).imp fun k h => by obtain ⟨_, _, rfl, rfl, rfl⟩ := h; rfl
theorem v_mod (ha : JV X p a σ H x) (hb : JV X p b σ H y) (hc : 0 < y) : JV X p (.BinOp a .Mod b pos) σ H (x % y) := (j_opI op_mod ha hb fun i j e1 e2 => by rw [e2]; exact hc).imp fun k h => by obtain ⟨_, _, rfl, rfl, rfl⟩ := h; rfl
theorem v_div (ha : JV X p a σ H x) (hb : JV X p b σ H y) (hc : CDivW x y) : JV X p (.BinOp a .FloorDiv b pos) σ H (x / y) := (j_opI op_fdivW ha hb fun i j e1 e2 => by rw [e1, e2]; exact hc).imp fun k h => by obtain ⟨_, _, rfl, rfl, rfl⟩ := h; rfl
theorem v_pow (ha : JV X p a σ H x) (hb : JV X p b σ H y) (hc : CPow x y) : JV X p (.BinOp a .Pow b pos) σ H (x ^ y.toNat) := (j_opI op_pow ha hb fun i j e1 e2 => by rw [e1, e2]; exact hc).imp fun k h => by obtain ⟨_, _, rfl, rfl, rfl⟩ := h; rfl
theorem j_neg (ha : JE X p a σ H A) : JE X p (.UnaryOp .USub a pos) σ H (fun k : Int => ∃ i, A i ∧ k = -i) := fun H1 g Q q =>
  of_pe (pe_un un_neg semE) (ha H1 g _ fun v H2 i g2 pi r => by
    cases rep_int r
    exact ⟨i, rfl, q _ H2 (-i) g2 ⟨i, pi, rfl⟩ (.int _)⟩)
theorem v_neg (ha : JV X p a σ H x) : JV X p (.UnaryOp .USub a pos) σ H (-x) := (j_neg ha).imp fun k h => by obtain ⟨_, rfl, rfl⟩ := h; rfl
end
/-- a comparison of two ints -/
theorem v_cmpI {op : CmpOp} {f : Int → Int → Bool} {x y : Int} (ho : OpR X (compareOp op) (rI0 fun i j => .bl (f i j))) (ha : JV X p a σ H x) (hb : JV X p b σ H y) (hm : behindInMarks op b = false) :
    JV X p (.Compare a [op] [b] pos) σ H (f x y) := fun H1 g Q q =>
  of_pe (pe_cmpR ho semE semE hm) (ha H1 g _ fun v H2 i g2 pi r => hb H2 (g.trans g2) _ fun w H3 j g3 pj r' => by
    subst pi pj
    cases rep_int r
    cases rep_int r'
    exact ⟨i, j, rfl, rfl, q _ H3 _ (g2.trans g3) rfl (.bl _)⟩)

theorem v_eqS {x y : Str} (ha : JV X p a σ H x) (hb : JV X p b σ H y) (hm : behindInMarks .Eq b = false := by first | exact nomark _ | rfl) : JV X p (.Compare a [.Eq] [b] pos) σ H (decide (x = y)) := fun H1 g Q q =>
  of_pe (pe_cmpR op_eq semE semE hm) (ha H1 g _ fun v H2 i g2 pi r => hb H2 (g.trans g2) _ fun w H3 j g3 pj r' => by
    subst pi pj
    cases rep_str r
    cases rep_str r'
    refine ⟨rfl, q _ H3 _ (g2.trans g3) rfl ?_⟩
    rw [show decide (V.str i = V.str j) = decide (i = j) from decide_eq_decide.mpr ⟨fun e => V.str.inj e, fun e => congrArg V.str e⟩]
    exact .bl _)
theorem v_neS {x y : Str} (ha : JV X p a σ H x) (hb : JV X p b σ H y) (hm : behindInMarks .NotEq b = false := by first | exact nomark _ | rfl) : JV X p (.Compare a [.NotEq] [b] pos) σ H (!decide (x = y)) := fun H1 g Q q =>
  of_pe (pe_cmpR op_ne semE semE hm) (ha H1 g _ fun v H2 i g2 pi r => hb H2 (g.trans g2) _ fun w H3 j g3 pj r' => by
    subst pi pj
    cases rep_str r
    cases rep_str r'
    refine ⟨rfl, q _ H3 _ (g2.trans g3) rfl ?_⟩
    rw [show decide (V.str i = V.str j) = decide (i = j) from decide_eq_decide.mpr ⟨fun e => V.str.inj e, fun e => congrArg V.str e⟩]
    exact .bl _)
theorem v_eqI {x y : Int} (ha : JV X p a σ H x) (hb : JV X p b σ H y) (hm : behindInMarks .Eq b = false := by first | exact nomark _ | rfl) : JV X p (.Compare a [.Eq] [b] pos) σ H (decide (x = y)) := fun H1 g Q q =>
  of_pe (pe_cmpR op_eq semE semE hm) (ha H1 g _ fun v H2 i g2 pi r => hb H2 (g.trans g2) _ fun w H3 j g3 pj r' => by
    subst pi pj
    cases rep_int r
    cases rep_int r'
    refine ⟨rfl, q _ H3 _ (g2.trans g3) rfl ?_⟩
    rw [show decide (V.int i = V.int j) = decide (i = j) from decide_eq_decide.mpr ⟨fun e => V.int.inj e, fun e => congrArg V.int e⟩]
    exact .bl _)
mutual
theorem Rep.dp {K : PySem.W.Frag} {J : Hp} : ∀ {d : PyData} {v : V}, Rep K J v d → d.canLay0 = true → Dp K J v d
  | .none, _, h, _ => by cases h; exact .non
  | .bool _, _, h, _ => by cases h; exact .bl _
  | .int _, _, h, _ => by cases h; exact .int _
  | .str _, _, h, _ => by cases h; exact .str _
  | .list ds, _, h, c => by
    cases h with
    | lst s r => exact .lst (.inl (.inl s)) (Reps.dp r (by simpa only [PyData.canLay0] using c))
  | .tuple ds, _, h, c => by
    cases h with
    | tup s r => exact .tup s (Reps.dp r (by simpa only [PyData.canLay0] using c))
  | .dict _, _, _, c => by simp only [PyData.canLay0] at c; cases c
theorem Reps.dp {K : PySem.W.Frag} {J : Hp} : ∀ {ds : List PyData} {vs : List V}, Reps K J vs ds → PyData.canLayAll0 ds = true → DpAll K J vs ds
  | [], _, h, _ => by cases h; exact .nil
  | d :: ds, _, h, c => by
    cases h with
    | cons a b =>
      simp only [PyData.canLayAll0, Bool.and_eq_true] at c
      exact .cons (Rep.dp a c.1) (Reps.dp b c.2)
end
theorem Rep.all {K : PySem.W.Frag} {J : Hp} {v : V} {d : PyData} (h : Rep K (del p J) v d) : Rep K J v d := h.mono fun _ _ e => del_of e
theorem Reps.all {K : PySem.W.Frag} {J : Hp} {v : List V} {d : List PyData} (h : Reps K (del p J) v d) : Reps K J v d := h.mono fun _ _ e => del_of e
/-- == of data -/
theorem v_eqD {x : α} {y : β} (hu : X.A.units + 64 < cLine) (ha : JV X p a σ H x) (hb : JV X p b σ H y) (sx : SeqAt.shaped (enc x) = true) (sy : SeqAt.shaped (enc y) = true) (hm : behindInMarks .Eq b = false := by first | exact nomark _ | rfl) :
    JV X p (.Compare a [.Eq] [b] pos) σ H (PyData.eqv (enc x) (enc y)) := fun H1 g Q q =>
  of_pe (pe_cmpR (op_eqD hu) semE semE hm) (ha H1 g _ fun v H2 i g2 pi r => hb H2 (g.trans g2) _ fun w H3 j g3 pj r' => by
    subst pi pj
    exact ⟨_, _, (r.go g3).all.dp (SeqAt.canLay_of_shaped sx), r'.all.dp (SeqAt.canLay_of_shaped sy), sx, sy, q _ H3 _ (g2.trans g3) rfl (.bl _)⟩)
theorem v_neD {x : α} {y : β} (hu : X.A.units + 64 < cLine) (ha : JV X p a σ H x) (hb : JV X p b σ H y) (sx : SeqAt.shaped (enc x) = true) (sy : SeqAt.shaped (enc y) = true) (hm : behindInMarks .NotEq b = false := by first | exact nomark _ | rfl) :
    JV X p (.Compare a [.NotEq] [b] pos) σ H (!PyData.eqv (enc x) (enc y)) := fun H1 g Q q =>
  of_pe (pe_cmpR (op_neD hu) semE semE hm) (ha H1 g _ fun v H2 i g2 pi r => hb H2 (g.trans g2) _ fun w H3 j g3 pj r' => by
    subst pi pj
    exact ⟨_, _, (r.go g3).all.dp (SeqAt.canLay_of_shaped sx), r'.all.dp (SeqAt.canLay_of_shaped sy), sx, sy, q _ H3 _ (g2.trans g3) rfl (.bl _)⟩)
/-! ### and, or, not; tests -/
theorem v_and {x y : Bool} {rest : List Expr} (ha : JV X p a σ H x) (hb : x = true → JV X p (.BoolOp .And (b :: rest) pos) σ H y) : JV X p (.BoolOp .And (a :: b :: rest) pos) σ H (x && y) := fun H1 g Q q =>
  of_pe (pe_and semE semE) (ha H1 g _ fun v H2 i g2 pi r => by
    subst pi
    cases rep_bool r
    refine ⟨_, rfl, ?_⟩
    cases i with
    | true => exact iteT (hb rfl H2 (g.trans g2) Q fun v H3 k g3 e => q v H3 k (g2.trans g3) e)
    | false => exact iteF (q _ H2 _ g2 rfl r))
theorem v_one {op : BoolOp} {x : α} (ha : JV X p a σ H x) : JV X p (.BoolOp op [a] pos) σ H x := fun H1 g Q q => of_pe (pe_one semE) (ha H1 g Q q)
theorem v_or {x y : Bool} {rest : List Expr} (ha : JV X p a σ H x) (hb : x = false → JV X p (.BoolOp .Or (b :: rest) pos) σ H y) : JV X p (.BoolOp .Or (a :: b :: rest) pos) σ H (x || y) := fun H1 g Q q =>
  of_pe (pe_or semE semE) (ha H1 g _ fun v H2 i g2 pi r => by
    subst pi
    cases rep_bool r
    refine ⟨_, rfl, ?_⟩
    cases i with
    | false => exact iteF (hb rfl H2 (g.trans g2) Q fun v H3 k g3 e => q v H3 k (g2.trans g3) e)
    | true => exact iteT (q _ H2 _ g2 rfl r))
theorem v_not {x : Bool} (ha : JV X p a σ H x) : JV X p (.UnaryOp .Not a pos) σ H (!x) := fun H1 g Q q =>
  of_pe (pe_not semE) (ha H1 g _ fun v H2 i g2 pi r => by
    subst pi
    cases rep_bool r
    exact ⟨_, rfl, q _ H2 _ g2 rfl (.bl _)⟩)
/-- a test: a comparison, a call, not, and, or -/
theorem t_of {t : TE} {x : Bool} (hp : PT X e (tTest t)) (h : ∀ H1, Go p H H1 → ∀ Q : VK, (∀ v H2, Go p H1 H2 → v = .bl x → Q v H2) → t σ H1 Q) : JTV X p e σ H x := fun H1 g Q q =>
  of_pt hp (h H1 g _ fun v H2 g2 e2 => ⟨x, e2, q x H2 g2 rfl⟩)
theorem t_val {x : Bool} (ht : PT X e (tB (SemE X e))) (h : JV X p e σ H x) : JTV X p e σ H x := fun H1 g Q q =>
  of_pt ht (h H1 g _ fun v H2 i g2 pi r => by
    subst pi
    exact ⟨_, rep_bool r, q _ H2 g2 rfl⟩)
theorem t_not {x : Bool} (h : JTV X p a σ H x) : JTV X p (.UnaryOp .Not a pos) σ H (!x) := fun H1 g Q q =>
  of_pt (pt_not semT) (h H1 g _ fun c H2 g2 e => by
    subst e
    exact q _ H2 g2 rfl)
/-! ### argument lists, displays -/
theorem a_nil : JA X p [] σ H (fun ds => ds = []) := fun H1 g Q q => of_pa pa_nil (q [] H1 [] (.refl g.dk) rfl .nil)
theorem a_cons {A : α → Prop} {B : List PyData → Prop} (ha : JE X p e σ H A) (hr : JA X p es σ H B) (hs : starEach (e :: es) X.env = (false, eval e X.env) :: starEach es X.env := by rfl) :
    JA X p (e :: es) σ H (fun ds => ∃ x r, A x ∧ B r ∧ ds = enc x :: r) := fun H1 g Q q =>
  of_pa (pa_cons semE semA hs) (ha H1 g _ fun v H2 x g2 px rx => hr H2 (g.trans g2) _ fun vs H3 r g3 pr rr => q _ H3 _ (g2.trans g3) ⟨x, r, px, pr, rfl⟩ (.cons (rx.go g3) rr))
theorem a_1 {A : α → Prop} (ha : JE X p a σ H A) (hs : starEach [a] X.env = (false, eval a X.env) :: starEach [] X.env := by rfl) : JA X p [a] σ H (fun ds => ∃ x, A x ∧ ds = [enc x]) := fun H1 g Q q =>
  a_cons ha a_nil hs H1 g Q fun vs H2 ds g2 ⟨x, r, px, er, ed⟩ rr => q vs H2 ds g2 ⟨x, px, by rw [ed, er]⟩ rr
theorem a_2 {A : α → Prop} {B : β → Prop} (ha : JE X p a σ H A) (hb : JE X p b σ H B) (hs : starEach [a, b] X.env = (false, eval a X.env) :: starEach [b] X.env := by rfl) (hs2 : starEach [b] X.env = (false, eval b X.env) :: starEach [] X.env := by rfl) :
    JA X p [a, b] σ H (fun ds => ∃ x y, A x ∧ B y ∧ ds = [enc x, enc y]) := fun H1 g Q q =>
  a_cons ha (a_1 hb hs2) hs H1 g Q fun vs H2 ds g2 ⟨x, r, px, ⟨y, py, er⟩, ed⟩ rr => q vs H2 ds g2 ⟨x, y, px, py, by rw [ed, er]⟩ rr
theorem JA.imp {P P' : List PyData → Prop} (h : JA X p es σ H P) (i : ∀ ds, P ds → P' ds) : JA X p es σ H P' := fun H1 g Q q => h H1 g Q fun v H2 a g2 pa r => q v H2 a g2 (i a pa) r
/-- [a, b, ..]: any data whose list is the one told -/
theorem j_list {P : List PyData → Prop} (h : JA X p es σ H P) (hz : ∀ ds, P ds → ds.length ≤ sizeLine) : JE X p (.List es pos) σ H (fun d : PyData => ∃ ds, P ds ∧ d = .list ds) := fun H1 g Q q =>
  of_pe (pe_lst semA) (h H1 g _ fun vs H2 ds g2 pd rr => ⟨by rw [rr.len]; exact hz ds pd, fun l hl => q _ _ _ (g2.trans (.new g2.dk hl)) ⟨ds, pd, rfl⟩ (.lst (del_upd g2.dk hl) (rr.go (.new g2.dk hl)))⟩)
theorem j_tuple {P : List PyData → Prop} {k : Nat} (h : JA X p es σ H P) (hz : ∀ ds, P ds → ds.length ≤ sizeLine) : JE X p (.Tuple es k pos) σ H (fun d : PyData => ∃ ds, P ds ∧ d = .tuple ds) := fun H1 g Q q =>
  of_pe (pe_tup semA) (h H1 g _ fun vs H2 ds g2 pd rr => ⟨by rw [rr.len]; exact hz ds pd, fun l hl => q _ _ _ (g2.trans (.new g2.dk hl)) ⟨ds, pd, rfl⟩ (.tup (.inl (.inl (del_upd g2.dk hl))) (rr.go (.new g2.dk hl)))⟩)
/-! ### calls of built-ins -/
theorem j_blt {x : Str} {id : String} {r : List V → Hp → VK → Prop} {P : List PyData → Prop} {R : β → Prop} (hc : CallR X (.builtin id) r) (hg : Gl X x) (hm : X.mg x = none) (hv : bootBuiltins x = some (.builtin id)) (ha : JA X p (e :: es) σ H P)
    (hr : ∀ J vs ds, Go p H J → P ds → Reps X.K (del p J) vs ds → ∀ Q : VK, (∀ v J2 b, Go p J J2 → R b → Rep X.K (del p J2) v (enc b) → Q v J2) → r vs J Q)
    (hn : x ≠ "__name__" := by decide) (hdb : (x == ("__debug__" : Str)) = false := by decide) (he : starEach (e :: es) X.env = (false, eval e X.env) :: starEach es X.env := by rfl) (hpl : (backTo pos (starEach es X.env)).any (·.1) = false := by rfl) :
    JE X p (.Call (.Name x ps) (e :: es) [] pos) σ H R := fun H1 g Q q =>
  of_pe (pe_callB hc hg hm hv semA hn hdb he hpl) (ha H1 g _ fun vs H2 ds g2 pd rr => hr H2 vs ds (g.trans g2) pd rr Q fun v J2 b g3 rb rp => q v J2 b (g2.trans g3) rb rp)
theorem j_ty {x : Str} {id : String} {r : List V → Hp → VK → Prop} {P : List PyData → Prop} {R : β → Prop} (hc : CallR X (.type id) r) (hg : Gl X x) (hm : X.mg x = none) (hv : bootBuiltins x = some (.type id)) (ha : JA X p (e :: es) σ H P)
    (hr : ∀ J vs ds, Go p H J → P ds → Reps X.K (del p J) vs ds → ∀ Q : VK, (∀ v J2 b, Go p J J2 → R b → Rep X.K (del p J2) v (enc b) → Q v J2) → r vs J Q)
    (hn : x ≠ "__name__" := by decide) (hdb : (x == ("__debug__" : Str)) = false := by decide) (he : starEach (e :: es) X.env = (false, eval e X.env) :: starEach es X.env := by rfl) (hpl : (backTo pos (starEach es X.env)).any (·.1) = false := by rfl) :
    JE X p (.Call (.Name x ps) (e :: es) [] pos) σ H R := fun H1 g Q q =>
  of_pe (pe_callTy hc hg hm hv semA hn hdb he hpl) (ha H1 g _ fun vs H2 ds g2 pd rr => hr H2 vs ds (g.trans g2) pd rr Q fun v J2 b g3 rb rp => q v J2 b (g2.trans g3) rb rp)
end
end Lp
set_option Elab.async false
set_option linter.all false
set_option maxRecDepth 100000
set_option maxHeartbeats 4000000
/-! Lp, part four: operators by data, repr, calls of one's own defs, statements, loops. -/
namespace Lp
open PySem PySem.Spec L2
section
variable {X : Cx} {p : OA} {σ : St} {H H' : Hp} {e a b c : Expr} {es : List Expr} {pos ps : Pos} {α β γ : Type} [Enc α] [Enc β] [Enc γ]
/-! ### operators -/
def OpD (X : Cx) (r : R2) (p : OA) (x : α) (y : β) (z : γ) : Prop := ∀ J v w, DOk p J → Rep X.K (del p J) v (enc x) → Rep X.K (del p J) w (enc y) → ∀ Q : VK, (∀ u J2, Go p J J2 → Rep X.K (del p J2) u (enc z) → Q u J2) → r v w J Q
theorem v_bin {op : Operator} {r : R2} {x : α} {y : β} {z : γ} (ho : OpR X (binaryOp op) r) (ha : JV X p a σ H x) (hb : JV X p b σ H y) (d : OpD X r p x y z) : JV X p (.BinOp a op b pos) σ H z := fun H1 g Q q =>
  of_pe (pe_op ho semE semE) (ha H1 g _ fun v H2 i g2 pi rx => hb H2 (g.trans g2) _ fun w H3 j g3 pj ry => by
    subst pi pj
    exact d H3 v w g3.dk (rx.go g3) ry Q fun u J2 g4 ru => q u J2 _ ((g2.trans g3).trans g4) rfl ru)
theorem v_cmp {op : CmpOp} {r : R2} {x : α} {y : β} {z : γ} (ho : OpR X (compareOp op) r) (ha : JV X p a σ H x) (hb : JV X p b σ H y) (d : OpD X r p x y z) (hm : behindInMarks op b = false := by first | exact nomark _ | rfl) : JV X p (.Compare a [op] [b] pos) σ H z := fun H1 g Q q =>
  of_pe (pe_cmpR ho semE semE hm) (ha H1 g _ fun v H2 i g2 pi rx => hb H2 (g.trans g2) _ fun w H3 j g3 pj ry => by
    subst pi pj
    exact d H3 v w g3.dk (rx.go g3) ry Q fun u J2 g4 ru => q u J2 _ ((g2.trans g3).trans g4) rfl ru)
theorem t_cmp {op : CmpOp} {r : R2} {x : α} {y : β} {z : Bool} (ho : OpR X (compareOp op) r) (ha : JV X p a σ H x) (hb : JV X p b σ H y) (d : OpD X r p x y z) (hm : behindInMarks op b = false := by first | exact nomark _ | rfl) : JTV X p (.Compare a [op] [b] pos) σ H z := fun H1 g Q q =>
  of_pt (pt_cmpR ho semE semE hm) (ha H1 g _ fun v H2 i g2 pi rx => hb H2 (g.trans g2) _ fun w H3 j g3 pj ry => by
    subst pi pj
    exact d H3 v w g3.dk (rx.go g3) ry _ fun u J2 g4 ru => ⟨z, rep_bool ru, q z J2 ((g2.trans g3).trans g4) rfl⟩)
theorem od_I {f : Int → Int → Bool} {x y : Int} : OpD X (rI0 fun i j => .bl (f i j)) p x y (f x y) := fun J v w dk rx ry Q q => by
  cases rep_int rx
  cases rep_int ry
  exact ⟨x, y, rfl, rfl, q _ J (.refl dk) (.bl _)⟩
theorem od_eqS {x y : Str} : OpD X rEq p x y (decide (x = y)) := fun J v w dk rx ry Q q => by
  cases rep_str rx
  cases rep_str ry
  rw [show decide (x = y) = decide (V.str x = V.str y) from decide_eq_decide.mpr ⟨fun e => congrArg V.str e, fun e => V.str.inj e⟩] at q
  exact ⟨rfl, q _ J (.refl dk) (.bl _)⟩
theorem od_neS {x y : Str} : OpD X rNe p x y (!decide (x = y)) := fun J v w dk rx ry Q q => by
  cases rep_str rx
  cases rep_str ry
  rw [show decide (x = y) = decide (V.str x = V.str y) from decide_eq_decide.mpr ⟨fun e => congrArg V.str e, fun e => V.str.inj e⟩] at q
  exact ⟨rfl, q _ J (.refl dk) (.bl _)⟩
theorem od_eqI {x y : Int} : OpD X rEq p x y (decide (x = y)) := fun J v w dk rx ry Q q => by
  cases rep_int rx
  cases rep_int ry
  rw [show decide (x = y) = decide (V.int x = V.int y) from decide_eq_decide.mpr ⟨fun e => congrArg V.int e, fun e => V.int.inj e⟩] at q
  exact ⟨rfl, q _ J (.refl dk) (.bl _)⟩
theorem od_eqD {x : α} {y : β} (sx : SeqAt.shaped (enc x) = true) (sy : SeqAt.shaped (enc y) = true) : OpD X (rEqD X.K) p x y (PyData.eqv (enc x) (enc y)) := fun J v w dk rx ry Q q =>
  ⟨_, _, rx.all.dp (SeqAt.canLay_of_shaped sx), ry.all.dp (SeqAt.canLay_of_shaped sy), sx, sy, q _ J (.refl dk) (.bl _)⟩
theorem od_neD {x : α} {y : β} (sx : SeqAt.shaped (enc x) = true) (sy : SeqAt.shaped (enc y) = true) : OpD X (rNeD X.K) p x y (!PyData.eqv (enc x) (enc y)) := fun J v w dk rx ry Q q =>
  ⟨_, _, rx.all.dp (SeqAt.canLay_of_shaped sx), ry.all.dp (SeqAt.canLay_of_shaped sy), sx, sy, q _ J (.refl dk) (.bl _)⟩
/-! ### repr -/
theorem call_repr (hg : X.A.guards = some []) (hu : X.A.units + 64 < cLine) : CallR X (.builtin "repr") (fun xs J Q => ∃ v d, xs = [v] ∧ Dp X.K J v d ∧ d.showable = true ∧ d.hasDict = false ∧ d.depth ≤ 60 ∧ d.shown.length ≤ sizeLine ∧ Q (.str d.shown) J) := by
  intro pins s σ J xs us Q I r h
  obtain ⟨v, d, rfl, hd, hs, hn, hp, hz, q⟩ := h
  obtain ⟨u, rfl, ru⟩ := vals1 r
  obtain ⟨as, rd⟩ := Dp.reads I d v u hd ru
  cases hd with
  | non =>
    cases ru
    have q2 : Q (.str "None") J := by simpa only [PyData.shown] using q
    exact PySem.P.repr_of_none ⟨.str "None", J, I.tok _, ⟨_, rfl⟩, q2⟩
  | bl b =>
    cases ru
    have q2 : Q (.str (if b = true then "True" else "False")) J := by simpa only [PyData.shown] using q
    exact PySem.P.repr_of_bool ⟨.str (if b = true then "True" else "False"), J, I.tok _, ⟨_, rfl⟩, q2⟩
  | int i =>
    obtain ⟨t, rfl⟩ := ru
    simp only [PyData.showable, decide_eq_true_eq] at hs
    have q2 : Q (.str (toString i)) J := by simpa only [PyData.shown] using q
    exact PySem.P.repr_of_int hs ⟨.str (toString i), J, I.tok _, ⟨_, rfl⟩, q2⟩
  | str x =>
    obtain ⟨t, rfl⟩ := ru
    simp only [PyData.shown] at hz
    have q2 : Q (.str (reprText x)) J := by simpa only [PyData.shown] using q
    exact PySem.P.repr_of_str ⟨.str (reprText x), J, I.tok _, ⟨_, rfl⟩, q2⟩ hz
  | lst h1 h2 =>
    cases ru
    exact repr_of_reads' rd hs (PyData.noDict_hsm hn) hg (by omega) (fun _ _ e => e) (fun h' t tk k => ⟨.str (PyData.shown _), J, I.kept (t' := tk) k, ⟨_, rfl⟩, q⟩) hz
  | tup h1 h2 =>
    cases ru
    exact repr_of_reads' rd hs (PyData.noDict_hsm hn) hg (by omega) (fun _ _ e => e) (fun h' t tk k => ⟨.str (PyData.shown _), J, I.kept (t' := tk) k, ⟨_, rfl⟩, q⟩) hz
/-- what repr shows, and of what it may be asked -/
structure Shows (d : PyData) : Prop where
  lay : d.canLay0 = true
  sh : d.showable = true
  dp : d.depth ≤ 60
  sz : d.shown.length ≤ sizeLine
theorem v_repr {x : α} (hgd : X.A.guards = some []) (hu : X.A.units + 64 < cLine) (hg : Gl X "repr") (hm : X.mg "repr" = none) (ha : JV X p e σ H x) (sx : Shows (enc x)) (he : starEach [e] X.env = (false, eval e X.env) :: starEach [] X.env := by rfl) (hpl : (backTo pos (starEach [] X.env)).any (·.1) = false := by rfl) :
    JV X p (.Call (.Name "repr" ps) [e] [] pos) σ H (enc x).shown :=
  j_blt (call_repr hgd hu) hg hm (by decide +kernel) (a_1 ha he) (fun J vs ds g ⟨y, ey, ed⟩ rr Q q => by
    subst ey ed
    cases rr with
    | cons r1 r2 =>
      cases r2
      exact ⟨_, _, rfl, r1.all.dp sx.lay, sx.sh, PyData.hasDict_of_canLay _ sx.lay, sx.dp, sx.sz, q _ J _ (.refl g.dk) rfl (.str _)⟩) (by decide) (by decide) he hpl
/-! ### more built-ins of ints and texts -/
theorem v_call1 {x : Str} {id : String} {r : List V → Hp → VK → Prop} {u : α} {z : β} (hc : CallR X (.builtin id) r) (hg : Gl X x) (hm : X.mg x = none) (hv : bootBuiltins x = some (.builtin id)) (ha : JV X p e σ H u)
    (hr : ∀ J v, DOk p J → Rep X.K (del p J) v (enc u) → ∀ Q : VK, (∀ w J2, Go p J J2 → Rep X.K (del p J2) w (enc z) → Q w J2) → r [v] J Q)
    (hn : x ≠ "__name__" := by decide) (hdb : (x == ("__debug__" : Str)) = false := by decide) (he : starEach [e] X.env = (false, eval e X.env) :: starEach [] X.env := by rfl) (hpl : (backTo pos (starEach [] X.env)).any (·.1) = false := by rfl) : JV X p (.Call (.Name x ps) [e] [] pos) σ H z :=
  j_blt hc hg hm hv (a_1 ha he) (fun J vs ds g ⟨y, ey, ed⟩ rr Q q => by
    subst ey ed
    cases rr with
    | cons r1 r2 =>
      cases r2
      exact hr J _ g.dk r1 Q fun w J2 g2 rw' => q w J2 _ g2 rfl rw') hn hdb he hpl
theorem v_call2 {x : Str} {id : String} {r : List V → Hp → VK → Prop} {u : α} {u2 : γ} {z : β} (hc : CallR X (.builtin id) r) (hg : Gl X x) (hm : X.mg x = none) (hv : bootBuiltins x = some (.builtin id)) (ha : JV X p a σ H u) (hb : JV X p b σ H u2)
    (hr : ∀ J v v2, DOk p J → Rep X.K (del p J) v (enc u) → Rep X.K (del p J) v2 (enc u2) → ∀ Q : VK, (∀ w J2, Go p J J2 → Rep X.K (del p J2) w (enc z) → Q w J2) → r [v, v2] J Q)
    (hn : x ≠ "__name__" := by decide) (hdb : (x == ("__debug__" : Str)) = false := by decide) (he : starEach [a, b] X.env = (false, eval a X.env) :: starEach [b] X.env := by rfl) (he2 : starEach [b] X.env = (false, eval b X.env) :: starEach [] X.env := by rfl) (hpl : (backTo pos (starEach [b] X.env)).any (·.1) = false := by rfl) :
    JV X p (.Call (.Name x ps) [a, b] [] pos) σ H z :=
  j_blt hc hg hm hv (a_2 ha hb he he2) (fun J vs ds g ⟨y, y2, ey, ey2, ed⟩ rr Q q => by
    subst ey ey2 ed
    cases rr with
    | cons r1 r2 =>
      cases r2 with
      | cons r2 r3 =>
        cases r3
        exact hr J _ _ g.dk r1 r2 Q fun w J2 g2 rw' => q w J2 _ g2 rfl rw') hn hdb he hpl
theorem v_ty1 {x : Str} {id : String} {r : List V → Hp → VK → Prop} {u : α} {z : β} (hc : CallR X (.type id) r) (hg : Gl X x) (hm : X.mg x = none) (hv : bootBuiltins x = some (.type id)) (ha : JV X p e σ H u)
    (hr : ∀ J v, DOk p J → Rep X.K (del p J) v (enc u) → ∀ Q : VK, (∀ w J2, Go p J J2 → Rep X.K (del p J2) w (enc z) → Q w J2) → r [v] J Q)
    (hn : x ≠ "__name__" := by decide) (hdb : (x == ("__debug__" : Str)) = false := by decide) (he : starEach [e] X.env = (false, eval e X.env) :: starEach [] X.env := by rfl) (hpl : (backTo pos (starEach [] X.env)).any (·.1) = false := by rfl) : JV X p (.Call (.Name x ps) [e] [] pos) σ H z :=
  j_ty hc hg hm hv (a_1 ha he) (fun J vs ds g ⟨y, ey, ed⟩ rr Q q => by
    subst ey ed
    cases rr with
    | cons r1 r2 =>
      cases r2
      exact hr J _ g.dk r1 Q fun w J2 g2 rw' => q w J2 _ g2 rfl rw') hn hdb he hpl
theorem v_abs {i : Int} (hg : Gl X "abs") (hm : X.mg "abs" = none) (ha : JV X p e σ H i) (he : starEach [e] X.env = (false, eval e X.env) :: starEach [] X.env := by rfl) (hpl : (backTo pos (starEach [] X.env)).any (·.1) = false := by rfl) : JV X p (.Call (.Name "abs" ps) [e] [] pos) σ H (if i < 0 then -i else i) :=
  v_call1 call_abs hg hm (by decide +kernel) ha (fun J v d r Q q => by
    cases rep_int r
    exact ⟨i, rfl, q _ J (.refl d) (.int _)⟩) (by decide) (by decide) he hpl
theorem v_int1 {i : Int} (hg : Gl X "int") (hm : X.mg "int" = none) (ha : JV X p e σ H i) (he : starEach [e] X.env = (false, eval e X.env) :: starEach [] X.env := by rfl) (hpl : (backTo pos (starEach [] X.env)).any (·.1) = false := by rfl) : JV X p (.Call (.Name "int" ps) [e] [] pos) σ H i :=
  v_ty1 call_int1 hg hm (by decide +kernel) ha (fun J v d r Q q => by
    cases rep_int r
    exact .inl ⟨i, rfl, q _ J (.refl d) (.int _)⟩) (by decide) (by decide) he hpl
theorem v_intB {i : Bool} (hg : Gl X "int") (hm : X.mg "int" = none) (ha : JV X p e σ H i) (he : starEach [e] X.env = (false, eval e X.env) :: starEach [] X.env := by rfl) (hpl : (backTo pos (starEach [] X.env)).any (·.1) = false := by rfl) : JV X p (.Call (.Name "int" ps) [e] [] pos) σ H (if i then (1 : Int) else 0) :=
  v_ty1 call_int1 hg hm (by decide +kernel) ha (fun J v d r Q q => by
    cases rep_bool r
    exact .inr ⟨i, rfl, q _ J (.refl d) (.int _)⟩) (by decide) (by decide) he hpl
theorem v_str1 {i : Int} (hg : Gl X "str") (hm : X.mg "str" = none) (ha : JV X p e σ H i) (hz : i.natAbs.log2 < 1920) (he : starEach [e] X.env = (false, eval e X.env) :: starEach [] X.env := by rfl) (hpl : (backTo pos (starEach [] X.env)).any (·.1) = false := by rfl) : JV X p (.Call (.Name "str" ps) [e] [] pos) σ H (toString i : Str) :=
  v_ty1 call_str_int hg hm (by decide +kernel) ha (fun J v d r Q q => by
    cases rep_int r
    exact ⟨i, rfl, hz, q _ J (.refl d) (.str _)⟩) (by decide) (by decide) he hpl
theorem v_lenS {i : Str} (hg : Gl X "len") (hm : X.mg "len" = none) (ha : JV X p e σ H i) (hz : i.length ≤ sizeLine) (he : starEach [e] X.env = (false, eval e X.env) :: starEach [] X.env := by rfl) (hpl : (backTo pos (starEach [] X.env)).any (·.1) = false := by rfl) : JV X p (.Call (.Name "len" ps) [e] [] pos) σ H (i.length : Int) :=
  v_call1 call_len_str hg hm (by decide +kernel) ha (fun J v d r Q q => by
    cases rep_str r
    exact ⟨i, rfl, hz, q _ J (.refl d) (.int _)⟩) (by decide) (by decide) he hpl
theorem v_lenL {ds : List PyData} (hg : Gl X "len") (hm : X.mg "len" = none) (ha : JV X p e σ H (PyData.list ds)) (he : starEach [e] X.env = (false, eval e X.env) :: starEach [] X.env := by rfl) (hpl : (backTo pos (starEach [] X.env)).any (·.1) = false := by rfl) : JV X p (.Call (.Name "len" ps) [e] [] pos) σ H (ds.length : Int) :=
  v_call1 call_len_seq hg hm (by decide +kernel) ha (fun J v d r Q q => by
    cases r with
    | lst s r =>
      refine ⟨_, _, rfl, .inl (ls_q s), ?_⟩
      rw [r.len]
      exact q _ J (.refl d) (.int _)) (by decide) (by decide) he hpl
/-- len, an item of a list that is known by its slot (the script) -/
theorem v_lenQ {x : Str} {px : Pos} {da : Addr} {xs : List V} (hg : Gl X "len") (hm : X.mg "len" = none) (i : Nat) (hs : σ[i]? = some (some (.ref da))) (hq : SqL X.K (del p H) da xs) (hN : X.N[i]? = some x := by rfl) (hv : Vis X.env.scope x := by first | exact Or.inl rfl | exact Or.inr (Or.inl rfl) | exact Or.inr (Or.inr rfl))
    (hd : (x == ("__debug__" : Str)) = false := by decide) (hcd : (x == ("__classdict__" : Str)) = false := by decide) (he : starEach [.Name x px] X.env = (false, eval (.Name x px) X.env) :: starEach [] X.env := by rfl) (hpl : (backTo pos (starEach [] X.env)).any (·.1) = false := by rfl) :
    JV X p (.Call (.Name "len" ps) [.Name x px] [] pos) σ H (xs.length : Int) := fun H1 g Q q =>
  of_pe (pe_callB call_len_seq hg hm (by decide +kernel) (pa_cons (pv i hN hv hd hcd) pa_nil he) (by decide) (by decide) he hpl) ⟨_, hs, da, xs, rfl, .inl (sl_del (sl_ex g.exd hq)), q _ H1 _ (.refl g.dk) rfl (.int _)⟩
theorem j_itemQ {x : Str} {px : Pos} {da : Addr} {ns : List Int} {B : Int → Prop} (i : Nat) (hs : σ[i]? = some (some (.ref da))) (hq : SqL X.K (del p H) da (ns.map V.int)) (hb : JE X p b σ H B) (h : ∀ i, B i → 0 ≤ i ∧ i < ns.length) (hN : X.N[i]? = some x := by rfl) (hv : Vis X.env.scope x := by first | exact Or.inl rfl | exact Or.inr (Or.inl rfl) | exact Or.inr (Or.inr rfl))
    (hd : (x == ("__debug__" : Str)) = false := by decide) (hcd : (x == ("__classdict__" : Str)) = false := by decide) (hx : PlainIxT b := by exact fun _ _ => rfl) : JE X p (.Subscript (.Name x px) b pos) σ H (fun _ : Int => True) := fun H1 g Q q =>
  of_pe (pe_ix ix_list (pv i hN hv hd hcd) semE hx) ⟨_, hs, hb H1 g _ fun w H3 j g3 pj ry => by
    cases rep_int ry
    obtain ⟨h0, h1⟩ := h j pj
    have hk : j.toNat < ns.length := by omega
    have hv : (ns.map V.int)[j.toNat]? = some (.int ns[j.toNat]) := by
      rw [List.getElem?_map, List.getElem?_eq_getElem hk]
      rfl
    have := atI_nat hv
    rw [Int.toNat_of_nonneg h0] at this
    exact ⟨da, _, j, _, rfl, rfl, sl_del (sl_ex (g.trans g3).exd hq), this, q _ H3 _ g3 trivial (.int _)⟩⟩
theorem v_max {i j : Int} (hc : X.calm = true) (hg : Gl X "max") (hm : X.mg "max" = none) (ha : JV X p a σ H i) (hb : JV X p b σ H j) (he : starEach [a, b] X.env = (false, eval a X.env) :: starEach [b] X.env := by rfl) (he2 : starEach [b] X.env = (false, eval b X.env) :: starEach [] X.env := by rfl) (hpl : (backTo pos (starEach [b] X.env)).any (·.1) = false := by rfl) :
    JV X p (.Call (.Name "max" ps) [a, b] [] pos) σ H (if j > i then j else i) :=
  v_call2 (call_max2 hc) hg hm (by decide +kernel) ha hb (fun J v v2 d r r2 Q q => by
    cases rep_int r
    cases rep_int r2
    exact ⟨i, j, rfl, q _ J (.refl d) (.int _)⟩) (by decide) (by decide) he he2 hpl
theorem v_min {i j : Int} (hc : X.calm = true) (hg : Gl X "min") (hm : X.mg "min" = none) (ha : JV X p a σ H i) (hb : JV X p b σ H j) (he : starEach [a, b] X.env = (false, eval a X.env) :: starEach [b] X.env := by rfl) (he2 : starEach [b] X.env = (false, eval b X.env) :: starEach [] X.env := by rfl) (hpl : (backTo pos (starEach [b] X.env)).any (·.1) = false := by rfl) :
    JV X p (.Call (.Name "min" ps) [a, b] [] pos) σ H (if j < i then j else i) :=
  v_call2 (call_min2 hc) hg hm (by decide +kernel) ha hb (fun J v v2 d r r2 Q q => by
    cases rep_int r
    cases rep_int r2
    exact ⟨i, j, rfl, q _ J (.refl d) (.int _)⟩) (by decide) (by decide) he he2 hpl
/-! ### subscripts -/
theorem v_ix {ds : List PyData} {i : Int} {d : PyData} (ha : JV X p a σ H (PyData.list ds)) (hb : JV X p b σ H i) (h : atI ds i = some d) (hs : PlainIxT b := by exact fun _ _ => rfl) : JV X p (.Subscript a b pos) σ H d := fun H1 g Q q =>
  of_pe (pe_ix ix_list semE semE hs) (ha H1 g _ fun v H2 x g2 px rx => hb H2 (g.trans g2) _ fun w H3 j g3 pj ry => by
    subst px pj
    cases rep_int ry
    cases rx.go g3 with
    | lst s r =>
      have hl := r.len
      unfold atI at h
      cases e : ixN ds.length j with
      | none =>
        rw [e] at h
        cases h
      | some k =>
        rw [e] at h
        have h' : ds[k]? = some d := h
        have hk : k < ds.length := by
          cases Nat.lt_or_ge k ds.length with
          | inl z => exact z
          | inr z => rw [List.getElem?_eq_none z] at h'; cases h'
        have hv : (_ : List V)[k]? = some _ := List.getElem?_eq_getElem (show k < _ by rw [hl]; exact hk)
        obtain ⟨d', e', r'⟩ := r.get hv
        rw [h'] at e'
        cases e'
        refine ⟨_, _, j, _, rfl, rfl, ls_q s, ?_, q _ H3 _ (g2.trans g3) rfl r'⟩
        have e2 : ixN _ j = some k := (congrArg (fun n => ixN n j) hl).trans e
        unfold atI
        rw [e2]
        exact hv)
end
end Lp
set_option Elab.async false
set_option linter.all false
set_option maxRecDepth 100000
set_option maxHeartbeats 4000000
/-! Lp, part five: one's own defs, statements, loops. -/
namespace Lp
open PySem PySem.Spec L2
/-! ### promises of one's own defs -/
/-- what it hands back is data of which R holds; the data of the arguments are ds -/
def spF {β : Type} [Enc β] (K : PySem.W.Frag) (Pre : List PyData → Prop) (R : List PyData → β → Prop) : Sp := fun vs J Q _ => ∃ (p : OA) (ds : List PyData), DOk p J ∧ Reps K (del p J) vs ds ∧ Pre ds ∧
  ∀ v J2 b, Go p J J2 → R ds b → Rep K (del p J2) v (enc b) → Q v J2
/-- the same of a def whose first argument is the dice -/
def spD {β : Type} [Enc β] (K : PySem.W.Frag) (Pre : List PyData → Prop) (R : List PyData → β → Prop) : Sp := fun vs J Q _ => ∃ (a : Addr) (p : OA) (ws : List V) (ds : List PyData), vs = .ref a :: ws ∧ p.d = some a ∧ DOk p J ∧ Reps K (del p J) ws ds ∧ Pre ds ∧
  ∀ v J2 b, Go p J J2 → R ds b → Rep K (del p J2) v (enc b) → Q v J2
section
variable {P : Program} {w : World} {K : PySem.W.Frag} {mg : Str → Option Value} {base : Heap} {β : Type} [Enc β] {Pre : List PyData → Prop} {R : List PyData → β → Prop}
abbrev XX (P : Program) (w : World) (K : PySem.W.Frag) (mg : Str → Option Value) (base : Heap) (N : List Str) (qual : Str) (st : Stmt) (f : Addr) (cdv : Value) (B : Around) (fr : List Env) (s : Shared) (J : Hp) (Z : XK) : Cx :=
  (cxOf CX0 P w K mg base N qual (defScope st) f cdv B fr s J Z).nox
theorem okF {x qual : Str} {st : Stmt} {f : Addr} {fd : FuncData} {N ps : List Str} {k : Nat} (F : Fun K x qual st f fd) (S : FnScope N ps (defScope st)) (len : ∀ ds, Pre ds → ds.length = ps.length)
    (body : ∀ (cdv : Value) (B : Around) (fr : List Env) (s : Shared) (J0 : Hp) (Z : XK), Room k (XX P w K mg base N qual st f cdv B fr s J0 Z).A → (XX P w K mg base N qual st f cdv B fr s J0 Z).A.guards = some [] →
      ∀ (p : OA) (J : Hp) (vs : List V) (ds : List PyData) (Q : VK), DOk p J → Reps K (del p J) vs ds → Pre ds → (∀ v J2 b, Go p J J2 → R ds b → Rep K (del p J2) v (enc b) → Q v J2) →
      SemSs (XX P w K mg base N qual st f cdv B fr s J0 Z) (defBody st) { nx := fun _ H' => Q .non H', rt := Q } (start N vs) J) : FnG P w K mg base CX0 (k + 1) f fd ps (spF K Pre R) :=
  okN F S (fun vs J Q Z ⟨p, ds, _, r, pr, _⟩ => by rw [r.len]; exact len ds pr) fun cdv B fr s J xs Q Z hr hg ⟨p, ds, dk, r, pr, q⟩ =>
    ⟨_, semSs, body cdv B fr s J Z hr hg p J xs ds Q dk r pr q⟩
theorem okD {x qual : Str} {st : Stmt} {f : Addr} {fd : FuncData} {N ps : List Str} {k : Nat} (F : Fun K x qual st f fd) (S : FnScope N ps (defScope st)) (len : ∀ ds, Pre ds → ds.length + 1 = ps.length)
    (body : ∀ (cdv : Value) (B : Around) (fr : List Env) (s : Shared) (J0 : Hp) (Z : XK), Room k (XX P w K mg base N qual st f cdv B fr s J0 Z).A → (XX P w K mg base N qual st f cdv B fr s J0 Z).A.guards = some [] →
      ∀ (a : Addr) (p : OA) (J : Hp) (ws : List V) (ds : List PyData) (Q : VK), p.d = some a → DOk p J → Reps K (del p J) ws ds → Pre ds → (∀ v J2 b, Go p J J2 → R ds b → Rep K (del p J2) v (enc b) → Q v J2) →
      SemSs (XX P w K mg base N qual st f cdv B fr s J0 Z) (defBody st) { nx := fun _ H' => Q .non H', rt := Q } (start N (.ref a :: ws)) J) : FnG P w K mg base CX0 (k + 1) f fd ps (spD K Pre R) :=
  okN F S (fun vs J Q Z ⟨a, p, ws, ds, e, _, _, r, pr, _⟩ => by rw [e, List.length_cons, r.len]; exact len ds pr) fun cdv B fr s J xs Q Z hr hg ⟨a, p, ws, ds, e, hp, dk, r, pr, q⟩ => by
    subst e
    exact ⟨_, semSs, body cdv B fr s J Z hr hg a p J ws ds Q hp dk r pr q⟩
end
section
variable {X : Cx} {p : OA} {σ : St} {H H' : Hp} {e a b c : Expr} {es : List Expr} {pos ps : Pos} {α β γ : Type} [Enc α] [Enc β] [Enc γ] {D : Ends}
/-- f(e, ..) -/
theorem j_fn {k : Nat} {f : Addr} {fd : FuncData} {qs : List Str} {x : Str} {Pre P : List PyData → Prop} {R : List PyData → β → Prop} (F : FnG X.prog X.w X.K X.mg X.base CX0 k f fd qs (spF X.K Pre R)) (hr : Room k X.A) (hgd : X.A.guards = some [])
    (hm : X.mg x = some (.ref f)) (hk : PySem.W.keepIn X.K (.ref f) = true) (hb : Binds X.K fd qs []) (ha : JA X p (e :: es) σ H P) (hp : ∀ ds, P ds → Pre ds) (hg : Gl X x := by rfl)
    (hdb : (x == ("__debug__" : Str)) = false := by decide) (he : starEach (e :: es) X.env = (false, eval e X.env) :: starEach es X.env := by rfl) (hpl : (backTo pos (starEach es X.env)).any (·.1) = false := by rfl) :
    JE X p (.Call (.Name x ps) (e :: es) [] pos) σ H (fun r : β => ∃ ds, P ds ∧ R ds r) := fun H1 g Q q =>
  of_pe (callG F hr hgd hg hm hk hb pass0 semA hdb he hpl) (ha H1 g _ fun vs H2 ds g2 pd rr => by
    rw [List.append_nil]
    exact ⟨p, ds, g2.dk, rr, hp ds pd, fun v J2 r g3 hR rp => q v J2 r (g2.trans g3) ⟨ds, pd, hR⟩ rp⟩)
/-- f(dice, e, ..): the dice in slot i -/
theorem j_fd {k : Nat} {f da : Addr} {fd : FuncData} {qs : List Str} {x y : Str} {py : Pos} {Pre P : List PyData → Prop} {R : List PyData → β → Prop} (F : FnG X.prog X.w X.K X.mg X.base CX0 k f fd qs (spD X.K Pre R)) (hr : Room k X.A) (hgd : X.A.guards = some [])
    (hm : X.mg x = some (.ref f)) (hk : PySem.W.keepIn X.K (.ref f) = true) (hb : Binds X.K fd qs []) (i : Nat) (hs : σ[i]? = some (some (.ref da))) (hpd : p.d = some da) (ha : JA X p es σ H P) (hp : ∀ ds, P ds → Pre ds) (hg : Gl X x := by rfl)
    (hN : X.N[i]? = some y := by rfl) (hv : Vis X.env.scope y := by first | exact Or.inl rfl | exact Or.inr (Or.inl rfl) | exact Or.inr (Or.inr rfl)) (hd : (y == ("__debug__" : Str)) = false := by decide) (hcd : (y == ("__classdict__" : Str)) = false := by decide)
    (hdb : (x == ("__debug__" : Str)) = false := by decide) (he : starEach (.Name y py :: es) X.env = (false, eval (.Name y py) X.env) :: starEach es X.env := by rfl) (hpl : (backTo pos (starEach es X.env)).any (·.1) = false := by rfl) :
    JE X p (.Call (.Name x ps) (.Name y py :: es) [] pos) σ H (fun r : β => ∃ ds, P ds ∧ R ds r) := fun H1 g Q q =>
  of_pe (callG F hr hgd hg hm hk hb pass0 (pa_cons (pv i hN hv hd hcd) semA he) hdb he hpl) ⟨_, hs, ha H1 g _ fun vs H2 ds g2 pd rr => by
    dsimp only
    rw [List.append_nil]
    exact ⟨da, p, vs, ds, rfl, hpd, g2.dk, rr, hp ds pd, fun v J2 r g3 hR rp => q v J2 r (g2.trans g3) ⟨ds, pd, hR⟩ rp⟩⟩
/-! ### statements -/
theorem ss_cons {st : Stmt} {rest : List Stmt} (h : SemS X st { D with nx := SemSs X rest D } σ H) : SemSs X (st :: rest) D σ H := of_pss (pss_cons semS semSs) h
theorem ss_nil (h : D.nx σ H) : SemSs X [] D σ H := of_pss pss_nil h
theorem s_set {P : α → Prop} {x : Str} {px : Pos} (i : Nat) (dk : DOk p H) (h : JE X p e σ H P) (nd : X.N.Nodup) (k : ∀ v H1 u, Go p H H1 → P u → Rep X.K (del p H1) v (enc u) → D.nx (σ.set i (some v)) H1) (hi : X.N[i]? = some x := by rfl)
    (hx : Loc X.env.scope x := by exact Or.inl rfl) (hs : swapsWith e (some (.Name x px)) pos.line X.env = pure false := by rfl) (hf : X.fn x = true ∨ X.env.scope.names.lookup x = some .local := by first | exact .inl rfl | exact .inr rfl) : SemS X (.Assign [.Name x px] e pos) D σ H :=
  of_ps (ps_set (i := i) nd hi hx semE hs hf) (h H (.refl dk) _ fun v H1 u g pu r => k v H1 u g pu r)
theorem s_ret {P : α → Prop} (dk : DOk p H) (h : JE X p e σ H P) (k : ∀ v H1 u, Go p H H1 → P u → Rep X.K (del p H1) v (enc u) → D.rt v H1) : SemS X (.Return (some e) pos) D σ H := of_ps (ps_ret semE) (h H (.refl dk) _ k)
theorem s_if {P : Bool → Prop} {th el : List Stmt} (dk : DOk p H) (h : JT X p c σ H P) (h1 : ∀ H1, Go p H H1 → P true → SemSs X th D σ H1) (h2 : ∀ H1, Go p H H1 → P false → SemSs X el D σ H1) : SemS X (.If c th el pos) D σ H :=
  of_ps (ps_if semT semSs semSs) (h H (.refl dk) _ fun u H1 g pu => by
    cases u with
    | true => exact iteT (h1 H1 g pu)
    | false => exact iteF (h2 H1 g pu))
/-- for x in e, e a list -/
theorem s_forL {it : Expr} {body : List Stmt} {x : Str} {px : Pos} {P : List PyData → Prop} (i : Nat) (dk : DOk p H) (hpa : PassesOwn (model X.prog X.w) X.A X.env X.xe) (hc : X.calm = true) (nd : X.N.Nodup) (h : JE X p it σ H (fun d : PyData => ∃ ds, P ds ∧ d = .list ds))
    (I : Hp → List PyData → Nat → St → Hp → Prop) (h0 : ∀ H1 ds, Go p H H1 → P ds → I H1 ds 0 σ H1) (hk : ∀ H1 ds k σ' H', Go p H H1 → I H1 ds k σ' H' → Go p H1 H')
    (hs : ∀ H1 ds k d v σ' H', Go p H H1 → P ds → ds[k]? = some d → I H1 ds k σ' H' → Rep X.K (del p H') v d → SemSs X body { D with nx := I H1 ds (k + 1), ct := I H1 ds (k + 1), bk := D.nx } (σ'.set i (some v)) H')
    (hd : ∀ H1 ds σ' H', Go p H H1 → P ds → I H1 ds ds.length σ' H' → D.nx σ' H') (hi : X.N[i]? = some x := by rfl) (hx : Loc X.env.scope x := by exact Or.inl rfl) (hf : X.fn x = true ∨ X.env.scope.names.lookup x = some .local := by first | exact .inl rfl | exact .inr rfl)
    (hfs : ∀ y, foldedSetIterable it X.env y = pure y := by intro _; rfl) : SemS X (.For (.Name x px) it body [] pos) D σ H :=
  of_ps (ps_for hpa hc (pi_list semE) (pg_name nd hi hx hf) semSs hfs) (h H (.refl dk) _ fun v H1 d g ⟨ds, pd, ed⟩ r => by
    subst ed
    cases r with
    | lst s rr =>
      have hl := rr.len
      refine ⟨_, rfl, ⟨_, ls_q s⟩, for_list (fun k σ' H' => I H1 ds k σ' H') (h0 H1 ds g pd) (fun k σ' H' _ z => ls_q ((hk H1 ds k σ' H' g z).exd _ _ s)) (fun k x σ' H' ex z => ?_) (fun σ' H' z => ?_)⟩
      · obtain ⟨d, ed, rd⟩ := rr.get ex
        exact hs H1 ds k d x σ' H' g pd ed z (rd.go (hk H1 ds k σ' H' g z))
      · rw [hl] at z
        exact hd H1 ds σ' H' g pd z)
/-- for x in range(e) -/
theorem s_forR {body : List Stmt} {x : Str} {px pr : Pos} {P : Int → Prop} (i : Nat) (dk : DOk p H) (hpa : PassesOwn (model X.prog X.w) X.A X.env X.xe) (hc : X.calm = true) (nd : X.N.Nodup) (hm : X.mg "range" = none) (h : JE X p e σ H P) (hz : ∀ n, P n → n < 2 ^ 62 ∧ -(2 ^ 62) ≤ n)
    (I : Hp → Int → Nat → St → Hp → Prop) (h0 : ∀ H1 n, Go p H H1 → P n → I H1 n 0 σ H1)
    (hs : ∀ H1 n (k : Nat) σ' H', Go p H H1 → P n → k < n.toNat → I H1 n k σ' H' → SemSs X body { D with nx := I H1 n (k + 1), ct := I H1 n (k + 1), bk := D.nx } (σ'.set i (some (.int (k : Int)))) H')
    (hd : ∀ H1 n σ' H', Go p H H1 → P n → I H1 n n.toNat σ' H' → D.nx σ' H') (hg : Gl X "range" := by rfl) (hi : X.N[i]? = some x := by rfl) (hx : Loc X.env.scope x := by exact Or.inl rfl) (hf : X.fn x = true ∨ X.env.scope.names.lookup x = some .local := by first | exact .inl rfl | exact .inr rfl)
    (he : starEach [e] X.env = [(false, eval e X.env)] := by rfl) (he1 : starEach [e] X.env = (false, eval e X.env) :: starEach [] X.env := by rfl) (hfs : ∀ y, foldedSetIterable (.Call (.Name "range" pr) [e] [] ps) X.env y = pure y := by intro _; rfl) : SemS X (.For (.Name x px) (.Call (.Name "range" pr) [e] [] ps) body [] pos) D σ H :=
  of_ps (ps_for hpa hc (pi_range1 hg hm (pa_cons semE pa_nil he1) he) (pg_name nd hi hx hf) semSs hfs) (h H (.refl dk) _ fun v H1 n g pn r => by
    cases rep_int r
    refine ⟨n, rfl, (hz n pn).2, (hz n pn).1, for_range (lo := 0) (n := n.toNat) (fun k σ' H' => I H1 n k σ' H') (h0 H1 n g pn) (fun k σ' H' hl z => ?_) (fun σ' H' z => hd H1 n σ' H' g pn z)⟩
    show SemSs X body _ (σ'.set i (some (.int ((0 : Int) + (k : Int))))) H'
    rw [Int.zero_add]
    exact hs H1 n k σ' H' g pn hl z)
end
end Lp
set_option Elab.async false
set_option linter.all false
set_option maxRecDepth 100000
set_option maxHeartbeats 4000000
/-! Lp, part six: where only bounds are known; the dice's cells. -/
namespace Lp
open PySem PySem.Spec L2
section
variable {X : Cx} {p : OA} {σ : St} {H H' : Hp} {e a b c : Expr} {es : List Expr} {pos ps : Pos} {α β γ : Type} [Enc α] [Enc β] [Enc γ] {D : Ends}
theorem j_int1 {A : Int → Prop} (hg : Gl X "int") (hm : X.mg "int" = none) (ha : JE X p e σ H A) (he : starEach [e] X.env = (false, eval e X.env) :: starEach [] X.env := by rfl) (hpl : (backTo pos (starEach [] X.env)).any (·.1) = false := by rfl) : JE X p (.Call (.Name "int" ps) [e] [] pos) σ H A :=
  j_ty call_int1 hg hm (by decide +kernel) (a_1 ha he) (fun J vs ds g ⟨y, ey, ed⟩ rr Q q => by
    subst ed
    cases rr with
    | cons r1 r2 =>
      cases r2
      cases rep_int r1
      exact .inl ⟨y, rfl, q _ J y (.refl g.dk) ey (.int _)⟩) (by decide) (by decide) he hpl
theorem t_cmpI {op : CmpOp} {f : Int → Int → Bool} {A B : Int → Prop} (ho : OpR X (compareOp op) (rI0 fun i j => .bl (f i j))) (ha : JE X p a σ H A) (hb : JE X p b σ H B) (hm : behindInMarks op b = false := by first | exact nomark _ | rfl) :
    JT X p (.Compare a [op] [b] pos) σ H (fun r => ∃ i j, A i ∧ B j ∧ r = f i j) := fun H1 g Q q =>
  of_pt (pt_cmpR ho semE semE hm) (ha H1 g _ fun v H2 i g2 pi rx => hb H2 (g.trans g2) _ fun w H3 j g3 pj ry => by
    cases rep_int rx
    cases rep_int ry
    exact ⟨i, j, rfl, rfl, _, rfl, q _ H3 (g2.trans g3) ⟨i, j, pi, pj, rfl⟩⟩)
theorem j_cmpI {op : CmpOp} {f : Int → Int → Bool} {A B : Int → Prop} (ho : OpR X (compareOp op) (rI0 fun i j => .bl (f i j))) (ha : JE X p a σ H A) (hb : JE X p b σ H B) (hm : behindInMarks op b = false := by first | exact nomark _ | rfl) :
    JE X p (.Compare a [op] [b] pos) σ H (fun r : Bool => ∃ i j, A i ∧ B j ∧ r = f i j) := fun H1 g Q q =>
  of_pe (pe_cmpR ho semE semE hm) (ha H1 g _ fun v H2 i g2 pi rx => hb H2 (g.trans g2) _ fun w H3 j g3 pj ry => by
    cases rep_int rx
    cases rep_int ry
    exact ⟨i, j, rfl, rfl, q _ H3 _ (g2.trans g3) ⟨i, j, pi, pj, rfl⟩ (.bl _)⟩)
theorem j_if {A : α → Prop} {P : Bool → Prop} (hc : JT X p c σ H P) (h1 : P true → JE X p a σ H A) (h2 : P false → JE X p b σ H A) : JE X p (.IfExp c a b pos) σ H A := fun H1 g Q q =>
  of_pe (pe_ifExp semT semE semE) (hc H1 g _ fun u H2 g2 pu => by
    cases u with
    | true => exact iteT (h1 pu H2 (g.trans g2) Q fun v H3 x g3 px r => q v H3 x (g2.trans g3) px r)
    | false => exact iteF (h2 pu H2 (g.trans g2) Q fun v H3 x g3 px r => q v H3 x (g2.trans g3) px r))
/-- dice[k] -/
theorem j_cell {da : Addr} {y : Str} {py pk ps : Pos} {kk} {k : Int} (i : Nat) (hs : σ[i]? = some (some (.ref da))) (hpd : p.d = some da) (hk : k = 0 ∨ k = 1 ∨ k = 2) (hN : X.N[i]? = some y := by rfl) (hv : Vis X.env.scope y := by first | exact Or.inl rfl | exact Or.inr (Or.inl rfl) | exact Or.inr (Or.inr rfl))
    (hd : (y == ("__debug__" : Str)) = false := by decide) (hcd : (y == ("__classdict__" : Str)) = false := by decide) : JE X p (.Subscript (.Name y py) (.Constant (.int k) kk pk) ps) σ H (fun _ : Int => True) := fun H1 g Q q => by
  obtain ⟨l, s, c, hl⟩ := g.dk.di da hpd
  have hx : ∃ x : Int, atI [V.int l, V.int s, V.int c] k = some (.int x) := by
    rcases hk with rfl | rfl | rfl
    · exact ⟨l, rfl⟩
    · exact ⟨s, rfl⟩
    · exact ⟨c, rfl⟩
  obtain ⟨x, hx⟩ := hx
  exact of_pe (pe_ix ix_list (pv i hN hv hd hcd) pe_int (fun _ _ => rfl)) ⟨_, hs, da, _, k, _, rfl, rfl, .inl (.inl hl), hx, q _ H1 x (.refl g.dk) trivial (.int x)⟩
/-- dice[k] = e -/
theorem s_cell {da : Addr} {y : Str} {py pk ps : Pos} {kk} {k : Int} {A : Int → Prop} (i : Nat) (dk : DOk p H) (hs : σ[i]? = some (some (.ref da))) (hpd : p.d = some da) (hk : k = 0 ∨ k = 1 ∨ k = 2) (he : JE X p e σ H A) (q : ∀ H1, Go p H H1 → D.nx σ H1)
    (hN : X.N[i]? = some y := by rfl) (hv : Vis X.env.scope y := by first | exact Or.inl rfl | exact Or.inr (Or.inl rfl) | exact Or.inr (Or.inr rfl))
    (hd : (y == ("__debug__" : Str)) = false := by decide) (hcd : (y == ("__classdict__" : Str)) = false := by decide)
    (h1 : swapsWithSole [.Subscript (.Name y py) (.Constant (.int k) kk pk) ps] e pos.line X.env = pure false := by rfl) (h2 : swappedStores [.Subscript (.Name y py) (.Constant (.int k) kk pk) ps] e X.env = pure none := by rfl)
    (h3 : (assignEach [.Subscript (.Name y py) (.Constant (.int k) kk pk) ps] X.env).map (·.2) = [assign (.Subscript (.Name y py) (.Constant (.int k) kk pk) ps) X.env] := by rfl) :
    SemS X (.Assign [.Subscript (.Name y py) (.Constant (.int k) kk pk) ps] e pos) D σ H :=
  of_ps (ps_asg semE (pg_sub (pv i hN hv hd hcd) pe_int set_list) h1 h2 h3) (he H (.refl dk) _ fun v H1 x g _ r => by
    obtain ⟨l, s, c, hl⟩ := g.dk.di da hpd
    cases rep_int r
    have put : ∀ zs : List V, (∃ l' s' c' : Int, zs = [.int l', .int s', .int c']) → D.nx σ (upd H1 da (.lst zs)) := fun zs ⟨l', s', c', ez⟩ => by
      refine q _ (g.trans ⟨fun b o nb eb => ?_, fun b eb => ?_, fun b m => ?_⟩)
      · have n : b ≠ da := fun z => nb (by rw [z]; exact hpd)
        rw [upd_ne n]
        exact eb
      · rw [hpd] at eb
        cases eb
        exact ⟨l', s', c', by rw [upd_same, ez]⟩
      · by_cases n : b = da
        · rw [n, upd_same]
          exact Option.some_ne_none _
        · rw [upd_ne n]
          exact g.dk.lv b m
    rcases hk with rfl | rfl | rfl
    · exact ⟨_, hs, da, _, 0, 0, rfl, rfl, hl, rfl, put _ ⟨x, s, c, rfl⟩⟩
    · exact ⟨_, hs, da, _, 1, 1, rfl, rfl, hl, rfl, put _ ⟨l, x, c, rfl⟩⟩
    · exact ⟨_, hs, da, _, 2, 2, rfl, rfl, hl, rfl, put _ ⟨l, s, x, rfl⟩⟩)
/-- return [e, ..]: the new list as it stands in the heap -/
theorem s_retL {P : List PyData → Prop} {pe : Pos} (dk : DOk p H) (h : JA X p es σ H P) (hz : ∀ ds, P ds → ds.length ≤ sizeLine) (k : ∀ q H1 vs ds, Go p H H1 → P ds → Reps X.K (del p H1) vs ds → H1 q = none → D.rt (.ref q) (upd H1 q (.lst vs))) :
    SemS X (.Return (some (.List es pe)) pos) D σ H :=
  of_ps (ps_ret (pe_lst semA)) (h H (.refl dk) _ fun vs H1 ds g pd rr => ⟨by rw [rr.len]; exact hz ds pd, fun l hl => k l H1 vs ds g pd rr hl⟩)
/-- xs[i] by bounds: some item -/
theorem j_item {ds : List PyData} {B : Int → Prop} (ha : JV X p a σ H (PyData.list ds)) (hb : JE X p b σ H B) (h : ∀ i, B i → 0 ≤ i ∧ i < ds.length) (hs : PlainIxT b := by exact fun _ _ => rfl) : JE X p (.Subscript a b pos) σ H (fun d : PyData => d ∈ ds) := fun H1 g Q q =>
  of_pe (pe_ix ix_list semE semE hs) (ha H1 g _ fun v H2 x g2 px rx => hb H2 (g.trans g2) _ fun w H3 j g3 pj ry => by
    subst px
    cases rep_int ry
    obtain ⟨h0, h1⟩ := h j pj
    cases rx.go g3 with
    | lst s r =>
      have hl := r.len
      have hk : j.toNat < ds.length := by omega
      have hv : (_ : List V)[j.toNat]? = some _ := List.getElem?_eq_getElem (show j.toNat < _ by rw [hl]; exact hk)
      obtain ⟨d', e', r'⟩ := r.get hv
      refine ⟨_, _, j, _, rfl, rfl, ls_q s, ?_, q _ H3 d' (g2.trans g3) (List.mem_of_getElem? e') r'⟩
      have := atI_nat hv
      rw [Int.toNat_of_nonneg h0] at this
      exact this)
/-- xs + ys -/
theorem j_cat {A B : List PyData → Prop} (ha : JE X p a σ H (fun d : PyData => ∃ ds, A ds ∧ d = .list ds)) (hb : JE X p b σ H (fun d : PyData => ∃ ds, B ds ∧ d = .list ds)) (hz : ∀ ds es, A ds → B es → ds.length + es.length ≤ sizeLine) :
    JE X p (.BinOp a .Add b pos) σ H (fun d : PyData => ∃ ds es, A ds ∧ B es ∧ d = .list (ds ++ es)) := fun H1 g Q q =>
  of_pe (pe_op op_cat semE semE) (ha H1 g _ fun v H2 x g2 ⟨ds, pd, ed⟩ rx => hb H2 (g.trans g2) _ fun w H3 y g3 ⟨es, pe, ee⟩ ry => by
    subst ed ee
    cases rx.go g3 with
    | lst s r =>
      cases ry with
      | lst s2 r2 =>
        refine ⟨_, _, _, _, rfl, rfl, del_of s, del_of s2, by rw [r.len, r2.len]; exact hz ds es pd pe, fun l hl => ?_⟩
        exact q _ _ _ ((g2.trans g3).trans (.new g3.dk hl)) ⟨ds, es, pd, pe, rfl⟩ (.lst (del_upd g3.dk hl) ((r.app r2).go (.new g3.dk hl))))
end
end Lp
set_option Elab.async false
set_option linter.all false
set_option maxRecDepth 100000
set_option maxHeartbeats 4000000
/-! Lp, part seven: comprehensions, zip, isinstance, more of texts. -/
namespace Lp
open PySem PySem.Spec L2
section
variable {X : Cx} {p : OA} {σ : St} {H H' : Hp} {e a b c : Expr} {es : List Expr} {pos ps : Pos} {α β γ : Type} [Enc α] [Enc β] [Enc γ] {D : Ends}
/-- a call whose value is known -/
theorem v_fn {k : Nat} {f : Addr} {fd : FuncData} {qs : List Str} {x : Str} {Pre P : List PyData → Prop} {R : List PyData → β → Prop} {r0 : β} (F : FnG X.prog X.w X.K X.mg X.base CX0 k f fd qs (spF X.K Pre R)) (hr : Room k X.A) (hgd : X.A.guards = some [])
    (hm : X.mg x = some (.ref f)) (hk : PySem.W.keepIn X.K (.ref f) = true) (hb : Binds X.K fd qs []) (ha : JA X p (e :: es) σ H P) (hp : ∀ ds, P ds → Pre ds) (hR : ∀ ds r, P ds → R ds r → r = r0) (hg : Gl X x := by rfl)
    (hdb : (x == ("__debug__" : Str)) = false := by decide) (he : starEach (e :: es) X.env = (false, eval e X.env) :: starEach es X.env := by rfl) (hpl : (backTo pos (starEach es X.env)).any (·.1) = false := by rfl) :
    JV X p (.Call (.Name x ps) (e :: es) [] pos) σ H r0 := (j_fn F hr hgd hm hk hb ha hp hg hdb he hpl).imp fun r ⟨ds, pd, hr⟩ => hR ds r pd hr
theorem v_fn1 {k : Nat} {f : Addr} {fd : FuncData} {qs : List Str} {x : Str} {Pre : List PyData → Prop} {R : List PyData → β → Prop} {u : α} {r0 : β} (F : FnG X.prog X.w X.K X.mg X.base CX0 k f fd qs (spF X.K Pre R)) (hr : Room k X.A) (hgd : X.A.guards = some [])
    (hm : X.mg x = some (.ref f)) (hk : PySem.W.keepIn X.K (.ref f) = true) (hb : Binds X.K fd qs []) (ha : JV X p a σ H u) (hp : Pre [enc u]) (hR : ∀ r, R [enc u] r → r = r0) (hg : Gl X x := by rfl)
    (hdb : (x == ("__debug__" : Str)) = false := by decide) (he : starEach [a] X.env = (false, eval a X.env) :: starEach [] X.env := by rfl) (hpl : (backTo pos (starEach [] X.env)).any (·.1) = false := by rfl) :
    JV X p (.Call (.Name x ps) [a] [] pos) σ H r0 := v_fn F hr hgd hm hk hb (a_1 ha he) (fun ds ⟨y, ey, ed⟩ => by rw [ed, ey]; exact hp) (fun ds r ⟨y, ey, ed⟩ h => hR r (by rw [← ey, ← ed]; exact h)) hg hdb he hpl
/-! ### tests joined by and, or -/
theorem t_or {x y : Bool} (ha : JTV X p a σ H x) (hb : x = false → JTV X p b σ H y) : JTV X p (.BoolOp .Or [a, b] pos) σ H (x || y) := fun H1 g Q q =>
  of_pt (PW.pt (pw_or semT (pw_or1 semT))) (ha H1 g _ fun u H2 g2 e => by
    subst e
    cases u with
    | false => exact iteF (hb rfl H2 (g.trans g2) Q fun v H3 g3 e => q v H3 (g2.trans g3) e)
    | true => exact iteT (q _ H2 g2 rfl))
theorem t_and {x y : Bool} (ha : JTV X p a σ H x) (hb : x = true → JTV X p b σ H y) : JTV X p (.BoolOp .And [a, b] pos) σ H (x && y) := fun H1 g Q q =>
  of_pt (PW.pt (pw_and semT (pw_and1 semT))) (ha H1 g _ fun u H2 g2 e => by
    subst e
    cases u with
    | true => exact iteT (hb rfl H2 (g.trans g2) Q fun v H3 g3 e => q v H3 (g2.trans g3) e)
    | false => exact iteF (q _ H2 g2 rfl))
/-- a call as a test -/
theorem t_call {x : Bool} (h : JV X p e σ H x) (he : ∀ whole, isTrue e X.env whole = (do let v ← whole; standAt e.pos; holding [v] (truthy v)) := by intro _; rfl) : JTV X p e σ H x := t_val (pt_val semE he) h
/-! ### isinstance -/
def tyN : PyData → String
  | .none => "NoneType"
  | .bool _ => "bool"
  | .int _ => "int"
  | .str _ => "str"
  | .list _ => "list"
  | .tuple _ => "tuple"
  | .dict _ => "dict"
theorem rep_ty {K : PySem.W.Frag} {J : Hp} {v : V} {d : PyData} (h : Rep K J v d) : TyX K J v (.type (tyN d)) := by
  cases h with
  | non => exact .base .non
  | bl b => exact .base (.bl b)
  | int i => exact .base (.int i)
  | str x => exact .base (.str x)
  | lst s r => exact .base (.lst s)
  | tup s r =>
    rcases s with (s | ⟨o, s⟩) | ⟨o, its, n, hk, hc, _⟩
    · exact .base (.tup s)
    · exact .fTuple s
    · exact .kTuple hk hc
  | dic s r => exact .base (.dK s)
theorem v_isi {x : Str} {cls : String} {px pc : Pos} {d : PyData} {r : Bool} (hg : Gl X "isinstance") (hm : X.mg "isinstance" = none) (hgc : Gl X x) (hmc : X.mg x = none) (hvc : bootBuiltins x = some (.type cls)) (ha : JV X p a σ H d) (hk : kitB (tyN d) cls = some r)
    (hn : x ≠ "__name__" := by decide) (hd : (x == ("__debug__" : Str)) = false := by decide) (he : starEach [a, .Name x pc] X.env = (false, eval a X.env) :: starEach [.Name x pc] X.env := by rfl) (he2 : starEach [.Name x pc] X.env = (false, eval (.Name x pc) X.env) :: starEach [] X.env := by rfl) (hpl : (backTo pos (starEach [.Name x pc] X.env)).any (·.1) = false := by rfl) :
    JV X p (.Call (.Name "isinstance" px) [a, .Name x pc] [] pos) σ H r := fun H1 g Q q =>
  of_pe (pe_callB call_isi hg hm (by decide +kernel) (pa_cons semE (pa_cons (pe_bltn (v := .ty cls) hgc hmc hvc rfl hn hd) pa_nil he2) he) (by decide) (by decide) he hpl) (ha H1 g _ fun v H2 i g2 pi rx => by
    subst pi
    exact ⟨v, .ty cls, _, _, r, rfl, .ty cls, rep_ty rx.all, kit_ty hk, q _ H2 r g2 rfl (.bl r)⟩)
/-! ### texts -/
theorem v_strip {x y : Str} {po : Pos} (ha : JV X p a σ H x) (hb : JV X p b σ H y) (hz : x.length ≤ sizeLine) (hba : attributeBase a "strip" X.env (eval a X.env) = eval a X.env := by rfl) (hl : (po.endLine == pos.line) = true := by rfl) (hfew : ((backTo pos (starEach [b] X.env)).all (fun x => !x.1) && (backToKw pos (keywordEach [] X.env)).all (fun x => x.1.isSome) && decide ([b].length + ([] : List Keyword).length + (if ([] : List Keyword).isEmpty then 0 else 1) < 30)) = true := by rfl)
    (he : starEach [b] X.env = (false, eval b X.env) :: starEach [] X.env := by rfl) (he2 : starEach [b] X.env = [(false, eval b X.env)] := by rfl) (hpl : (backTo pos (starEach [] X.env)).any (·.1) = false := by rfl) : JV X p (.Call (.Attribute a "strip" po) [b] [] pos) σ H (Txt.stripChars x y) := fun H1 g Q q =>
  of_pe (pe_bm PySem.F.plainAttrs_str PySem.F.slot_str_strip PySem.F.type_str_strip mt_stripChars semE (pa_cons semE pa_nil he) hba hfew hl he hpl) (ha H1 g _ fun v H2 i g2 pi rx => by
    subst pi
    cases rep_str rx
    exact ⟨rfl, hb H2 (g.trans g2) _ fun w H3 j g3 pj ry => by
      subst pj
      cases rep_str ry
      exact ⟨i, j, rfl, rfl, hz, q _ H3 _ (g2.trans g3) rfl (.str _)⟩⟩)
/-- s[k] -/
theorem v_sign {x : Str} {k : Int} {n : Nat} (ha : JV X p a σ H x) (hb : JV X p b σ H k) (hz : x.length ≤ 100000) (h : atI x.cps.toList k = some n) (hs : PlainIxT b := by exact fun _ _ => rfl) : JV X p (.Subscript a b pos) σ H (⟨#[n]⟩ : Str) := fun H1 g Q q =>
  of_pe (pe_ix ix_str semE semE hs) (ha H1 g _ fun v H2 i g2 pi rx => hb H2 (g.trans g2) _ fun w H3 j g3 pj ry => by
    subst pi pj
    cases rep_str rx
    cases rep_int ry
    exact ⟨i, j, n, rfl, rfl, Evl.sz_of hz, h, q _ H3 _ (g2.trans g3) rfl (.str _)⟩)
/-! ### xs[::-1], zip -/
theorem v_rev {k} {p1 p2 p3 : Pos} {ds : List PyData} (ha : JV X p a σ H (PyData.list ds)) : JV X p (.Subscript a (.Slice none none (some (.UnaryOp .USub (.Constant (.int 1) k p1) p2)) p3) pos) σ H (PyData.list ds.reverse) := fun H1 g Q q =>
  of_pe (pe_revL semE) (ha H1 g _ fun v H2 x g2 px rx => by
    subst px
    cases rx with
    | lst s r =>
      refine ⟨_, _, rfl, ls_q s, fun l hl => q _ _ _ (g2.trans (.new g2.dk hl)) rfl (.lst (del_upd g2.dk hl) ?_)⟩
      have rev : ∀ {vs : List V} {ds : List PyData}, Reps X.K (del p H2) vs ds → Reps X.K (del p H2) vs.reverse ds.reverse := fun {vs} => by
        induction vs with
        | nil =>
          intro ds h
          cases h
          exact .nil
        | cons u r ih =>
          intro ds h
          cases h with
          | cons h1 h2 =>
            rw [List.reverse_cons, List.reverse_cons]
            exact (ih h2).app (.cons h1 .nil)
      exact (rev r).go (.new g2.dk hl))
/-- for x, y in zip(e, e2), two lists of one length -/
theorem s_forZ {body : List Stmt} {x y : Str} {px py pt pz : Pos} {kk : Nat} {ds es : List PyData} (i j : Nat) (dk : DOk p H) (hpa : PassesOwn (model X.prog X.w) X.A X.env X.xe) (hc : X.calm = true) (nd : X.N.Nodup) (hm : X.mg "zip" = none) (ha : JV X p a σ H (PyData.list ds)) (hb : JV X p b σ H (PyData.list es)) (hl : ds.length = es.length)
    (I : Hp → Nat → St → Hp → Prop) (h0 : ∀ H1, Go p H H1 → I H1 0 σ H1) (hk : ∀ H1 k σ' H', Go p H H1 → I H1 k σ' H' → Go p H1 H')
    (hs : ∀ H1 k d d2 v v2 σ' H' H2, Go p H H1 → ds[k]? = some d → es[k]? = some d2 → I H1 k σ' H' → Go p H' H2 → Rep X.K (del p H2) v d → Rep X.K (del p H2) v2 d2 → SemSs X body { D with nx := I H1 (k + 1), ct := I H1 (k + 1), bk := D.nx } ((σ'.set i (some v)).set j (some v2)) H2)
    (hd : ∀ H1 σ' H', Go p H H1 → I H1 ds.length σ' H' → D.nx σ' H') (hg : Gl X "zip" := by rfl) (hi : X.N[i]? = some x := by rfl) (hx : Loc X.env.scope x := by exact Or.inl rfl) (hf : X.fn x = true ∨ X.env.scope.names.lookup x = some .local := by first | exact .inl rfl | exact .inr rfl)
    (hj : X.N[j]? = some y := by rfl) (hy : Loc X.env.scope y := by exact Or.inl rfl) (hf2 : X.fn y = true ∨ X.env.scope.names.lookup y = some .local := by first | exact .inl rfl | exact .inr rfl)
    (he : starEach [a, b] X.env = (false, eval a X.env) :: starEach [b] X.env := by rfl) (he2 : starEach [b] X.env = (false, eval b X.env) :: starEach [] X.env := by rfl) (hpl : (backTo ps (starEach [b] X.env)).any (·.1) = false := by rfl)
    (ht : (assignEach [.Name x px, .Name y py] X.env).length = 2 := by rfl) (ht2 : (assignEach [.Name x px, .Name y py] X.env).findIdx? (·.1) = none := by rfl)
    (hfs : ∀ y, foldedSetIterable (.Call (.Name "zip" pz) [a, b] [] ps) X.env y = pure y := by intro _; rfl) : SemS X (.For (.Tuple [.Name x px, .Name y py] kk pt) (.Call (.Name "zip" pz) [a, b] [] ps) body [] pos) D σ H :=
  of_ps (ps_for hpa hc (pi_zip hg hm (pa_cons semE (pa_cons semE pa_nil he2) he) he hpl) (pg_tup hc (pgs_cons (pg_name nd hi hx hf) (pgs_cons (pg_name nd hj hy hf2) pgs_nil)) ht ht2) semSs hfs) (ha H (.refl dk) _ fun v H1 x1 g1 e1 r1 => hb H1 g1 _ fun v2 H2 x2 g2 e2 r2 => by
    subst e1 e2
    cases r1.go g2 with
    | lst s1 q1 =>
      cases r2 with
      | lst s2 q2 =>
        have l1 := q1.len
        have l2 := q2.len
        have g := g1.trans g2
        refine ⟨_, _, _, _, rfl, ls_q s1, ls_q s2, RZ.for_zipL (l1.trans (hl.trans l2.symm)) (fun k σ' H' => I H2 k σ' H') (h0 H2 g) (fun k σ' H' z => ⟨ls_q ((hk H2 k σ' H' g z).exd _ _ s1), ls_q ((hk H2 k σ' H' g z).exd _ _ s2)⟩) (fun k u u2 T σ' H' eu eu2 z nT => ?_) (fun σ' H' z => ?_)⟩
        · have gk := hk H2 k σ' H' g z
          obtain ⟨d, ed, rd⟩ := q1.get eu
          obtain ⟨d2, ed2, rd2⟩ := q2.get eu2
          have gT : Go p H' (upd H' T (.tup [u, u2])) := .new gk.dk nT
          exact ⟨T, _, rfl, .inl (.inl upd_same), rfl, u, [u2], rfl, u2, [], rfl, rfl, hs H2 k d d2 u u2 σ' H' _ g ed ed2 z gT (rd.go (gk.trans gT)) (rd2.go (gk.trans gT))⟩
        · rw [l1] at z
          exact hd H2 σ' H' g z)
end
/-! ### comprehensions -/
def SemEB (X : Cx) (sc : Scope) (e : Expr) : TE := fun σ H Q => ∀ (s : Shared) (J : Hp) (C : Addr) (cl : List (Str × Addr)) (fp : List Addr), SemE (X.blk s J sc (compEnvC sc cl C X.env) fp) e σ H Q
def SemTB (X : Cx) (sc : Scope) (e : Expr) : TT := fun σ H Q => ∀ (s : Shared) (J : Hp) (C : Addr) (cl : List (Str × Addr)) (fp : List Addr), SemT (X.blk s J sc (compEnvC sc cl C X.env) fp) e σ H Q
def JEB {α : Type} [Enc α] (X : Cx) (sc : Scope) (p : OA) (e : Expr) (σ : St) (H : Hp) (P : α → Prop) : Prop := ∀ (s : Shared) (J : Hp) (C : Addr) (cl : List (Str × Addr)) (fp : List Addr), JE (X.blk s J sc (compEnvC sc cl C X.env) fp) p e σ H P
def JTB (X : Cx) (sc : Scope) (p : OA) (e : Expr) (σ : St) (H : Hp) (P : Bool → Prop) : Prop := ∀ (s : Shared) (J : Hp) (C : Addr) (cl : List (Str × Addr)) (fp : List Addr), JT (X.blk s J sc (compEnvC sc cl C X.env) fp) p e σ H P
section
variable {X : Cx} {p : OA} {σ : St} {H H' : Hp} {it elt c : Expr} {pos : Pos} {D : Ends}
theorem wipe1 {σ : St} {i : Nat} {v : Option V} : wipe (σ.set i v) [i] = wipe σ [i] := by
  show (wipe (σ.set i v) []).set i none = (wipe σ []).set i none
  show (σ.set i v).set i none = σ.set i none
  exact List.set_set ..
/-- from H, where q is not, to J, where it is -/
structure Gq (p : OA) (q : Addr) (H J : Hp) : Prop where
  no : H q = none
  go : Go p H J
  yes : J q ≠ none
theorem Gq.dk {q : Addr} {H J : Hp} (g : Gq p q H J) : DOk (p.add q) J := (g.go.sup g.yes).dk
theorem Rep.gq {K : PySem.W.Frag} {q : Addr} {H J : Hp} {v : V} {d : PyData} (h : Rep K (del p H) v d) (g : Gq p q H J) : Rep K (del (p.add q) J) v d := (h.add g.no).mono (Go.exd (p := p.add q) (g.go.sup g.yes))
theorem Reps.gq {K : PySem.W.Frag} {q : Addr} {H J : Hp} {v : List V} {d : List PyData} (h : Reps K (del p H) v d) (g : Gq p q H J) : Reps K (del (p.add q) J) v d := (h.add g.no).mono (Go.exd (p := p.add q) (g.go.sup g.yes))
/-- the reading of a comprehension over a list, with one test; f, g: the test's and the element's function -/
theorem lc_read {σ : St} {H : Hp} {i : Nat} {tt : TT} {te : TE} {P : List PyData → Prop} {f : PyData → Bool} {g : PyData → PyData} {K : PySem.W.Frag} {tl : TE}
    (hl : ∀ H1, Go p H H1 → ∀ Q : VK, (∀ v H2 d, Go p H1 H2 → (∃ ds, P ds ∧ d = PyData.list ds) → Rep K (del p H2) v d → Q v H2) → tl σ H1 Q) (hz : ∀ ds, P ds → ds.length ≤ sizeLine)
    (ht : ∀ ds d v J q, P ds → d ∈ ds → Gq p q H J → Rep K (del (p.add q) J) v d → ∀ Q : Bool → Hp → Prop, (∀ H2, Go (p.add q) J H2 → Q (f d) H2) → tt (σ.set i (some v)) J Q)
    (he : ∀ ds d v J q, P ds → d ∈ ds → f d = true → Gq p q H J → Rep K (del (p.add q) J) v d → ∀ Q : VK, (∀ v H2, Go (p.add q) J H2 → Rep K (del (p.add q) H2) v (g d) → Q v H2) → te (σ.set i (some v)) J Q) :
    ∀ H1, Go p H H1 → ∀ Q : VK, (∀ v H2 d, Go p H1 H2 → (∃ ds, P ds ∧ d = PyData.list ((ds.filter f).map g)) → Rep K (del p H2) v d → Q v H2) → tLc (iList K tl) (gName i) tt te [i] σ H1 Q := by
  intro H1 g1 Q q
  refine hl H1 g1 _ fun v H2 d g2 ⟨ds, pd, ed⟩ r => ?_
  subst ed
  cases r with
  | lst s rr =>
    have len := rr.len
    refine ⟨_, rfl, ⟨_, ls_q s⟩, fun Dn hD => ?_⟩
    have nD := g2.dk.ne hD
    have nDd : p.d ≠ some Dn := fun z => nD (.inl z)
    have fH : H Dn = none := (g1.trans g2).free hD
    have rr' := rr.add hD
    refine lc_list (fun k J => ∃ acc, J Dn = some (.lst acc) ∧ Reps K (del (p.add Dn) J) acc (((ds.take k).filter f).map g) ∧ Go p H2 J) ⟨[], upd_same, .nil, .new g2.dk hD⟩ (fun k J _ ⟨acc, e1, e2, e3⟩ => ls_q (e3.exd _ _ s)) (fun k x J ex ⟨acc, e1, e2, e3⟩ => ?_) fun J ⟨acc, e1, e2, e3⟩ => ?_
    · have gs : Gq p Dn H J := ⟨fH, (g1.trans g2).trans e3, by rw [e1]; exact Option.some_ne_none _⟩
      obtain ⟨d, ed, rd⟩ := (rr.gq ⟨hD, e3, gs.yes⟩).get ex
      have md : d ∈ ds := List.mem_of_getElem? ed
      have tk : ds.take (k + 1) = ds.take k ++ [d] := by rw [List.take_add_one, ed]; rfl
      show wipe ((wipe σ [i]).set i (some x)) [i] = wipe σ [i] ∧ _
      have es : (wipe σ [i]).set i (some x) = σ.set i (some x) := by
        show ((wipe σ []).set i none).set i (some x) = σ.set i (some x)
        exact List.set_set ..
      rw [es]
      refine ⟨wipe1, ht ds d x J Dn pd md gs rd _ fun J1 gt => ?_⟩
      have gs1 : Gq p Dn H J1 := ⟨fH, gs.go.trans gt.sub, fun z => gt.dk.lv Dn List.mem_cons_self z⟩
      cases hf : f d with
      | true =>
        refine iteT (he ds d x J1 Dn pd md hf gs1 (rd.go gt) _ fun y J2 ge ry => ?_)
        have gg := gt.trans ge
        have eD : J2 Dn = some (.lst acc) := gg.ex Dn _ nDd e1
        have gu : Go p H2 (upd J2 Dn (.lst (acc ++ [y]))) := Go.put g2.dk (e3.trans gg.sub) hD
        refine ⟨acc, eD, ?_, acc ++ [y], upd_same, ?_, gu⟩
        · have h1 := e2.len
          rw [List.length_map] at h1
          have h2 := List.length_filter_le f (ds.take k)
          have h4 : k < ds.length := (List.getElem?_eq_some_iff.mp ed).1
          have h5 := hz ds pd
          have h6 : (ds.take k).length ≤ k := List.length_take_le ..
          omega
        · rw [tk, List.filter_append, List.map_append]
          have : List.filter f [d] = [d] := by rw [List.filter_cons, hf]; rfl
          rw [this]
          exact Reps.mono del_put ((e2.go gg).app (.cons ry .nil))
      | false =>
        refine iteF ⟨acc, gt.ex Dn _ nDd e1, ?_, e3.trans gt.sub⟩
        rw [tk, List.filter_append]
        have : List.filter f [d] = [] := by rw [List.filter_cons, hf]; rfl
        rw [this, List.append_nil]
        exact e2.go gt
    · rw [len, List.take_length] at e2
      exact q _ J _ (g2.trans e3) ⟨ds, pd, rfl⟩ (.lst (by rw [del_at nD]; exact e1) e2.sub)
/-- [elt for x in it if c] -/
theorem j_lc {x : Str} {px : Pos} {sc : Scope} {P : List PyData → Prop} {f : PyData → Bool} {g : PyData → PyData} (i : Nat) (hc : X.calm = true) (nd : X.N.Nodup) (hl : JE X p it σ H (fun d : PyData => ∃ ds, P ds ∧ d = .list ds)) (hz : ∀ ds, P ds → ds.length ≤ sizeLine)
    (ok : BlkOk X.N X.env.scope sc [(x, i)])
    (ht : ∀ ds d v J q, P ds → d ∈ ds → Gq p q H J → Rep X.K (del (p.add q) J) v d → JTB X sc (p.add q) c (σ.set i (some v)) J (fun r => r = f d))
    (he : ∀ ds d v J q, P ds → d ∈ ds → f d = true → Gq p q H J → Rep X.K (del (p.add q) J) v d → JEB X sc (p.add q) elt (σ.set i (some v)) J (fun r : PyData => r = g d))
    (hi : X.N[i]? = some x := by rfl) (hx : sc.names.lookup x = some .local := by rfl)
    (hs : ∀ y, foldedSetIterable it X.env y = pure y := by intro _; rfl) :
    JE X p (.ListComp elt [⟨.Name x px, it, [c], 0⟩] sc pos) σ H (fun d : PyData => ∃ ds, P ds ∧ d = .list ((ds.filter f).map g)) := fun H1 g1 Q q =>
  of_pe (pe_lc (own := [(x, i)]) (g := gName i) (tt := SemTB X sc c) (te := SemEB X sc elt) hc nd (pi_list semE) ok
      (fun s J C cl fp => pg_name nd hi (show L2.Loc (compEnvC sc cl C X.env).scope x from .inl (lookup_relabel_local hx)) (.inr (show (compEnvC sc cl C X.env).scope.names.lookup x = some .local from lookup_relabel_local hx)))
      (fun s J C cl fp => pts_one ⟨fun pins st _ _ _ I h => (h s J C cl fp).run pins st I⟩) (fun s J C cl fp => ⟨fun pins st _ _ _ I h => (h s J C cl fp).run pins st I⟩) hs)
    (lc_read (K := X.K) (f := f) (g := g) hl hz (fun ds d v J q pd md gs r Q k s J' C cl fp => ht ds d v J q pd md gs r s J' C cl fp J (.refl gs.dk) Q fun b H2 g2 eb => by subst eb; exact k H2 g2)
      (fun ds d v J q pd md hf gs r Q k s J' C cl fp => he ds d v J q pd md hf gs r s J' C cl fp J (.refl gs.dk) Q fun v H2 a g2 ea rv => by subst ea; exact k v H2 g2 rv) H1 g1 Q q)
/-- name = [elt for x in it if c] -/
theorem s_setLc {x y : Str} {px py spos : Pos} {sc : Scope} {P : List PyData → Prop} {f : PyData → Bool} {g : PyData → PyData} (i j : Nat) (dk : DOk p H) (hc : X.calm = true) (nd : X.N.Nodup) (hl : JE X p it σ H (fun d : PyData => ∃ ds, P ds ∧ d = .list ds)) (hz : ∀ ds, P ds → ds.length ≤ sizeLine)
    (ok : BlkOk X.N X.env.scope sc [(x, i)])
    (ht : ∀ ds d v J q, P ds → d ∈ ds → Gq p q H J → Rep X.K (del (p.add q) J) v d → JTB X sc (p.add q) c (σ.set i (some v)) J (fun r => r = f d))
    (he : ∀ ds d v J q, P ds → d ∈ ds → f d = true → Gq p q H J → Rep X.K (del (p.add q) J) v d → JEB X sc (p.add q) elt (σ.set i (some v)) J (fun r : PyData => r = g d))
    (k : ∀ v H1 ds, Go p H H1 → P ds → Rep X.K (del p H1) v (.list ((ds.filter f).map g)) → D.nx (σ.set j (some v)) H1)
    (hsw : swapsWith (.ListComp elt [⟨.Name x px, it, [c], 0⟩] sc pos) (some (.Name y py)) spos.line X.env = pure true)
    (hi : X.N[i]? = some x := by rfl) (hj : X.N[j]? = some y := by rfl) (hyl : X.env.scope.names.lookup y = some .local := by rfl) (hx : sc.names.lookup x = some .local := by rfl)
    (hs : ∀ y, foldedSetIterable it X.env y = pure y := by intro _; rfl) :
    SemS X (.Assign [.Name y py] (.ListComp elt [⟨.Name x px, it, [c], 0⟩] sc pos) spos) D σ H :=
  of_ps (ps_setLc (i := j) (own := [(x, i)]) (g := gName i) (tt := SemTB X sc c) (te := SemEB X sc elt) hc nd hj hyl hsw (pi_list semE) ok
      (fun s J C cl fp => pg_name nd hi (show L2.Loc (compEnvC sc cl C X.env).scope x from .inl (lookup_relabel_local hx)) (.inr (show (compEnvC sc cl C X.env).scope.names.lookup x = some .local from lookup_relabel_local hx)))
      (fun s J C cl fp => pts_one ⟨fun pins st _ _ _ I h => (h s J C cl fp).run pins st I⟩) (fun s J C cl fp => ⟨fun pins st _ _ _ I h => (h s J C cl fp).run pins st I⟩) hs)
    (lc_read (K := X.K) (f := f) (g := g) hl hz (fun ds d v J q pd md gs r Q k s J' C cl fp => ht ds d v J q pd md gs r s J' C cl fp J (.refl gs.dk) Q fun b H2 g2 eb => by subst eb; exact k H2 g2)
      (fun ds d v J q pd md hf gs r Q k s J' C cl fp => he ds d v J q pd md hf gs r s J' C cl fp J (.refl gs.dk) Q fun v H2 a g2 ea rv => by subst ea; exact k v H2 g2 rv) H (.refl dk) _
      fun v H2 d g2 ⟨ds, pd, ed⟩ r => by
        subst ed
        exact k v H2 ds g2 pd r)
end
section
variable {X : Cx} {p : OA} {σ : St} {H H' : Hp} {e a b c : Expr} {es : List Expr} {pos ps : Pos} {α β γ : Type} [Enc α] [Enc β] [Enc γ] {D : Ends}
/-! ### displays whose items are known -/
theorem a_consV {x : α} {r : List PyData} (ha : JV X p e σ H x) (hr : JA X p es σ H (fun ds => ds = r)) (hs : starEach (e :: es) X.env = (false, eval e X.env) :: starEach es X.env := by rfl) : JA X p (e :: es) σ H (fun ds => ds = enc x :: r) :=
  (a_cons ha hr hs).imp fun ds ⟨y, t, ey, et, ed⟩ => by rw [ed, ey, et]
theorem v_list {r : List PyData} (h : JA X p es σ H (fun ds => ds = r)) (hz : r.length ≤ sizeLine) : JV X p (.List es pos) σ H (PyData.list r) := (j_list h fun ds e => by rw [e]; exact hz).imp fun d ⟨ds, e, ed⟩ => by rw [ed, e]
theorem v_tuple {r : List PyData} {k : Nat} (h : JA X p es σ H (fun ds => ds = r)) (hz : r.length ≤ sizeLine) : JV X p (.Tuple es k pos) σ H (PyData.tuple r) := (j_tuple h fun ds e => by rw [e]; exact hz).imp fun d ⟨ds, e, ed⟩ => by rw [ed, e]
/-- {k: v} -/
theorem v_dict1 {k : Key} {kc : Expr} {x : α} (hk : PE X kc (tC (kV k))) (ha : ∀ H1 q, Go p H H1 → H1 q = none → JV X (p.add q) a σ (upd H1 q (.dK [])) x) : JV X p (.Dict [some kc] [a] pos) σ H (PyData.dict [(kD k, enc x)]) := fun H1 g Q qq =>
  of_pe (pe_disp (pps_cons hk semE pps_nil) (by rfl) (by rfl) (fun z => by cases z) (by show (1 : Nat) ≤ 15; decide)) fun q hq => by
    have g1 : Go p H1 (upd H1 q (.dK [])) := .new g.dk hq
    have gs : Go (p.add q) (upd H1 q (.dK [])) (upd H1 q (.dK [])) := .refl (g1.sup (by rw [upd_same]; exact Option.some_ne_none _)).dk
    refine ha H1 q g hq _ gs _ fun v H2 i g2 ei r => ?_
    subst ei
    have nq : p.d ≠ some q := fun z => g.dk.ne hq (.inl z)
    have gp : Go p H1 (upd H2 q (.dK [(k, v)])) := Go.put g.dk (g1.trans g2.sub) hq
    exact ⟨g2.ex q _ nq upd_same, [(k, v)], rfl, by show (1 : Nat) ≤ 15; decide, qq _ _ _ gp rfl (.dic (del_upd g.dk hq) (.cons (Rep.sub (q := q) (Rep.mono del_put r)) .nil))⟩
end
end Lp
set_option Elab.async false
set_option linter.all false
set_option maxRecDepth 100000
set_option maxHeartbeats 1000000
/-! Lp, part eight: set(a list of texts), sorted of it. -/
namespace Lp
open PySem PySem.Spec PySem.Calls PyProof.Rows L2
/-! ### what a set of texts is -/
def txOf (e : Int × Value) : Str := match e.2 with
  | .str x _ => x
  | _ => Str.empty
def TxE (w : World) (e : Int × Value) : Prop := ∃ x u, e.2 = Value.str x u ∧ e.1 = hashStr w x
/-- at a: the set of the texts of zs, which are different -/
structure TxSet (w : World) (h : Heap) (a : Addr) (zs : List Str) (o : Obj) (es : Array (Int × Value)) (ep : Nat) (t : SetTable) : Prop where
  at_ : h.get? a = some o
  ex : o.ExactSet
  da : o.data = .set es ep t
  el : ∀ e ∈ es.toList, TxE w e
  pm : (es.toList.map txOf).Perm zs
  nd : zs.Nodup
  sm : es.size < scanBound
  fi : t.fits es.size = true
  ri : Ris t.place.toList
  le : w.params.followText "set-order" = true ∨ t.led = true
def TxAt (w : World) (h : Heap) (a : Addr) (zs : List Str) : Prop := ∃ o es ep t, TxSet w h a zs o es ep t
section
variable {P : Program} {w : World} {A : Around} {E : Value → Shared → Prop} {s : Shared} {a : Addr} {zs : List Str}
theorem TxAt.keep {h h1 : Heap} (T : TxAt w h a zs) (k : ∀ o, h.get? a = some o → h1.get? a = some o) : TxAt w h1 a zs := by
  obtain ⟨o, es, ep, t, T⟩ := T
  exact ⟨o, es, ep, t, { T with at_ := k o T.at_ }⟩
theorem tx_elems {l : List (Int × Value)} (g : ∀ e ∈ l, TxE w e) : ElemsOf (strKind P w) l := fun e m => by
  obtain ⟨x, u, e1, e2⟩ := g e m
  refine ⟨⟨x, ?_, e2⟩, by rw [e1] <;> rfl⟩
  rw [e1]
  exact (show Value.isStrOf x (.str x u) = true by simp [Value.isStrOf])
theorem tx_is {e : Int × Value} (g : TxE w e) (k : Str) : (strKind P w).is k e.2 = true ↔ txOf e = k := by
  obtain ⟨x, u, e1, _⟩ := g
  unfold txOf
  rw [e1]
  show Value.isStrOf k (.str x u) = true ↔ x = k
  simp [Value.isStrOf]
theorem TxSet.size {o : Obj} {es : Array (Int × Value)} {ep : Nat} {t : SetTable} (T : TxSet w s.heap a zs o es ep t) : es.size = zs.length := by
  have := T.pm.length_eq
  rw [List.length_map, Array.length_toList] at this
  exact this
/-- the set's table is laid, and laid anew where it is too full -/
theorem tx_tail {gv : Bool → Sem Unit} (hgv : ∀ (b : Bool) (s1 : Shared) (R : Unit → Shared → Prop), R () s1 → wpAny (model P w) A (gv b) R E s1) {o : Obj} {es es1 : Array (Int × Value)} {ep : Nat} {t t1 : SetTable}
    (ho : s.heap.get? a = some o) (hx : o.ExactSet) (hd : o.data = .set es ep t) (g : ∀ e ∈ es1.toList, TxE w e) (pm : (es1.toList.map txOf).Perm zs) (nd : zs.Nodup) (sm : es1.size < scanBound)
    (fi : t1.fits es1.size = true) (ri : Ris t1.place.toList) (le : w.params.followText "set-order" = true ∨ t1.led = true) {dum : Bool} {R : Option Bool → Shared → Prop}
    (q : ∀ h1, Heap.SameBut a s.heap h1 → TxAt w h1 a zs → R (some true) { s with heap := h1 }) :
    wpAny (model P w) A (do
      storeSet a es1 t1
      if (!dum && t1.tooFull) = true then do
        gv (relayAll t1 es1 (SetTable.grown es1.size)).2.2
        storeSet a (relayAll t1 es1 (SetTable.grown es1.size)).1 (relayAll t1 es1 (SetTable.grown es1.size)).2.1
        pure (some true)
      else pure (some true)) R E s := by
  apply wpAny_bind
  refine wpAny_storeSet_of (hz := fits_of_scanBound sm) ho hd ?_
  have at1 := store_at (es' := es1) (t' := t1) ho hd
  have but1 := Heap.SameBut.update s.heap a (Obj.putSet es1 t1)
  by_cases c : (!dum && t1.tooFull) = true
  · rw [if_pos c]
    have p2 := relayAll_perm t1 es1 (SetTable.grown es1.size)
    have f2 := relayAll_fits t1 es1 (SetTable.grown es1.size)
    have r2 := relayAll_ris t1 es1 (SetTable.grown es1.size)
    have l2 := relayAll_led t1 es1 (SetTable.grown es1.size)
    generalize relayAll t1 es1 (SetTable.grown es1.size) = N at p2 f2 r2 l2 ⊢
    have z2 : N.1.size = es1.size := by rw [← Array.length_toList, p2.length_eq, Array.length_toList]
    have sm2 : N.1.size < scanBound := by omega
    apply wpAny_bind
    apply hgv
    apply wpAny_bind
    refine wpAny_storeSet_of (hz := fits_of_scanBound sm2) at1 rfl ?_
    have at2 := store_at (es' := N.1) (t' := N.2.1) at1 rfl
    apply wpAny_pure
    refine q _ (but1.trans (Heap.SameBut.update _ a _)) ⟨_, N.1, _, N.2.1, at2, hx, rfl, fun e m => g e (p2.mem_iff.mp m), (p2.map txOf).trans pm, nd, sm2, f2, r2, ?_⟩
    rcases le with le | le
    · exact .inl le
    · exact .inr (by rw [l2]; exact le)
  · rw [if_neg c]
    exact wpAny_pure (q _ but1 ⟨_, es1, _, t1, at1, hx, rfl, g, pm, nd, sm, fi, ri, le⟩)
/-- one more text -/
theorem tx_add {k : Str} {u : Tok} {Q : Bool → Shared → Prop} (T : TxAt w s.heap a zs) (room : zs.length + 1 < scanBound)
    (q : ∀ b h1 ys, Heap.SameBut a s.heap h1 → TxAt w h1 a ys → (∀ x, x ∈ ys ↔ x ∈ zs ∨ x = k) → ys.length ≤ zs.length + 1 → Q b { s with heap := h1 }) :
    wpAny (model P w) A (setAddHashed a (.str k u) ((strKind P w).hash k)) Q E s := by
  obtain ⟨o, es, ep, t, T⟩ := T
  have zsz := T.size
  have key : (strKind P w).is k (.str k u) = true := (show Value.isStrOf k (.str k u) = true by simp [Value.isStrOf])
  have elm : ElemsOf (strKind P w) es.toList := tx_elems T.el
  have inz : ∀ x, x ∈ zs ↔ ∃ e ∈ es.toList, (strKind P w).is x e.2 = true := fun x => by
    rw [← T.pm.mem_iff, List.mem_map]
    exact ⟨fun ⟨e, m, z⟩ => ⟨e, m, (tx_is (T.el e m) x).mpr z⟩, fun ⟨e, m, z⟩ => ⟨e, m, (tx_is (T.el e m) x).mp z⟩⟩
  unfold setAddHashed setAddHashedIn
  apply wpAny_holding
  apply wpAny_bind
  apply wpAny_setState_of T.at_ T.da T.fi
  dsimp only
  rw [byScan_of (x := Value.str k u) rfl T.sm elm]
  simp only [↓reduceIte]
  unfold setAddByScan
  apply wpAny_bind
  apply wpAny_bind
  apply wpAny_rule
  apply wpAny_bind
  refine wpAny_setScan_of key T.at_ T.da T.fi elm ?_
  cases found : List.findIdx? (fun e => (strKind P w).is k e.2) es.toList with
  | some j =>
    obtain ⟨hj, pj, _⟩ := List.findIdx?_eq_some_iff_getElem.mp found
    have kz : k ∈ zs := (inz k).mpr ⟨es.toList[j], List.getElem_mem hj, pj⟩
    dsimp only
    apply wpAny_pure
    apply wpAny_pure
    exact q _ s.heap zs (Heap.SameBut.refl a s.heap) ⟨o, es, ep, t, T⟩ (fun x => ⟨.inl, fun z => z.elim id fun e => e ▸ kz⟩) (Nat.le_succ _)
  | none =>
    have kz : k ∉ zs := fun m => by
      obtain ⟨e, he, z⟩ := (inz k).mp m
      have := List.findIdx?_eq_none_iff.mp found e he
      rw [z] at this
      cases this
    have way : ∀ (b : Bool) {s1 : Shared} {R : Unit → Shared → Prop}, R () s1 → wpAny (model P w) A (match b with
        | true => rule "set.scan.the-table-gave-way"
        | false => pure ()) R E s1 := fun b _ _ z => by
      cases b
      · exact wpAny_pure z
      · exact wpAny_rule z
    dsimp only
    have p1 := layNew_perm t es ((strKind P w).hash k) (.str k u)
    have f1 := layNew_fits t es ((strKind P w).hash k) (.str k u)
    have r1 := layNew_ris t es ((strKind P w).hash k) (.str k u) T.ri
    have l1 := layNew_led t es ((strKind P w).hash k) (.str k u)
    generalize layNew t es ((strKind P w).hash k) (.str k u) = N at p1 f1 r1 l1 ⊢
    obtain ⟨es1, t1, dum, gave⟩ := N
    dsimp only at p1 f1 r1 l1 ⊢
    rw [Array.toList_push] at p1
    have p2 : es1.toList.Perm (((strKind P w).hash k, Value.str k u) :: es.toList) := p1.trans (List.perm_append_singleton _ _)
    have pm : (es1.toList.map txOf).Perm (k :: zs) := (p2.map txOf).trans (T.pm.cons k)
    have nd : (k :: zs).Nodup := List.nodup_cons.mpr ⟨kz, T.nd⟩
    have g : ∀ e ∈ es1.toList, TxE w e := fun e m => (List.mem_cons.mp (p2.mem_iff.mp m)).elim (fun z => by rw [z]; exact ⟨k, u, rfl, rfl⟩) (T.el e)
    have z1 : es1.size = zs.length + 1 := by rw [← Array.length_toList, p2.length_eq, List.length_cons, Array.length_toList, zsz]
    have sm : es1.size < scanBound := by omega
    have le : w.params.followText "set-order" = true ∨ t1.led = true := T.le.elim .inl fun z => .inr (by rw [l1]; exact z)
    have fin : ∀ b h1, Heap.SameBut a s.heap h1 → TxAt w h1 a (k :: zs) → Q b { s with heap := h1 } := fun b h1 sb T1 =>
      q b h1 (k :: zs) sb T1 (fun x => List.mem_cons.trans Or.comm) (Nat.le_refl _)
    apply wpAny_bind
    apply way
    by_cases c : t1.plain = true
    · rw [if_pos c]
      apply wpAny_bind
      rw [hashByValue_scannable 8 (x := Value.str k u) rfl]
      apply wpAny_pure
      have fi : (if t1.plain = true then { t1 with plain := false } else t1).fits es1.size = true := by
        rw [if_pos c]
        exact SetTable.fits_plain_off f1
      have ri : Ris (if t1.plain = true then { t1 with plain := false } else t1).place.toList := by
        rw [if_pos c]
        exact r1
      have le2 : w.params.followText "set-order" = true ∨ (if t1.plain = true then { t1 with plain := false } else t1).led = true := by
        rw [if_pos c]
        exact le
      rw [if_pos c] at fi ri le2
      refine tx_tail (fun b s1 R z => ?_) T.at_ T.ex T.da g pm nd sm fi ri le2 fun h1 sb T1 => ?_
      · cases b
        · exact wpAny_pure z
        · exact wpAny_rule z
      · dsimp only
        exact wpAny_pure (fin _ h1 sb T1)
    · rw [if_neg c]
      apply wpAny_bind
      apply wpAny_pure
      simp only [↓reduceIte]
      refine tx_tail (fun b s1 R z => ?_) T.at_ T.ex T.da g pm nd sm f1 r1 le fun h1 sb T1 => ?_
      · cases b
        · exact wpAny_pure z
        · exact wpAny_rule z
      · dsimp only
        exact wpAny_pure (fin _ h1 sb T1)
/-- the loop of set(..) over any walk that gives texts -/
theorem tx_loop {I : Addr} {fp wr : List Addr} {G : Array GenState → Array GenState → Prop} {n : Nat} {Pv : Nat → Value → Prop} {St : Nat → Shared → Prop} {R : Result → Shared → Prop}
    (W : WalksS P w A.in1 I fp wr G n Pv St) (S : Addr) (out : S ∉ fp) (xs : List Str) (len : n = xs.length) (sm : xs.length + 1 < scanBound) (val : ∀ i v, Pv i v → ∃ x u, xs[i]? = some x ∧ v = .str x u) :
    ∀ (k i : Nat) (s : Shared), n - i = k → i ≤ n → St i s → (∃ ys, TxAt w s.heap S ys ∧ (∀ x, x ∈ ys ↔ x ∈ xs.take i) ∧ ys.length ≤ i) →
      (∀ s2 ys, Moved (S :: wr) G s s2 → TxAt w s2.heap S ys → (∀ x, x ∈ ys ↔ x ∈ xs) → R (.ok (.ret .none)) s2) →
      codeAny (model P w) A (.builtin "set.update.loop" ⟨[.ref S, .ref I], []⟩) R s := by
  have outw : S ∉ wr := fun z => out (W.sub _ z)
  have wide : ∀ b ∈ wr, b ∈ S :: wr := fun _ => List.mem_cons_of_mem _
  intro k
  induction k with
  | zero =>
    rintro i s hk hi st ⟨ys, T, mem, _⟩ q
    obtain rfl : i = n := by omega
    refine codeAny_builtin F.entry_set_update_loop ?_
    rw [Around.under_plainId F.plain_set_update_loop _]
    apply wpAny_bind
    refine W.done s _ _ st fun s2 mv => ?_
    apply wpAny_pure
    refine q s2 ys (mv.mono wide) (T.keep fun o e => mv.heap S o outw e) fun x => ?_
    rw [mem x, List.take_of_length_le (by omega)]
  | succ k ih =>
    rintro i s hk hi st ⟨ys, T, mem, le⟩ q
    have lt : i < n := by omega
    refine codeAny_builtin F.entry_set_update_loop ?_
    rw [Around.under_plainId F.plain_set_update_loop _]
    apply wpAny_bind
    refine W.item i s _ _ lt st fun v s2 pv st2 mv => ?_
    obtain ⟨x, u, ex, rfl⟩ := val i v pv
    have T2 : TxAt w s2.heap S ys := T.keep fun o e => mv.heap S o outw e
    dsimp only
    apply wpAny_bind
    apply wpAny_holding
    unfold setAdd
    apply wpAny_holding
    apply wpAny_bind
    refine (strKind P w).pyHash (k := x) (show Value.isStrOf x (.str x u) = true by simp [Value.isStrOf]) ?_
    refine tx_add (s := { s2 with toks := s2.toks + 1 }) T2 (by omega) fun b h1 zs sb T3 mem3 le3 => ?_
    have mem4 : ∀ y, y ∈ zs ↔ y ∈ xs.take (i + 1) := fun y => by
      rw [mem3 y, mem y, List.take_add_one, ex]
      simp [List.mem_append]
    apply wpAny_pure
    refine ⟨plainId_quiet F.plain_set_update_loop _, ih (i + 1) _ (by omega) lt (W.frame _ s2 _ _ st2 (Nat.le_succ _) fun c hc o e => ?_) ⟨zs, T3, mem4, by omega⟩ fun s3 ys3 mv3 T4 mem5 => ?_⟩
    · have nc : c ≠ S := fun z => out (z ▸ hc)
      rw [sb.2 c nc]
      exact e
    · refine q s3 ys3 (Moved.trans W.gtrans ((mv.mono wide).then_heap (Nat.le_succ _) fun c o hc e => ?_) mv3) T4 mem5
      have nc : c ≠ S := fun z => hc (z ▸ List.mem_cons_self)
      rw [sb.2 c nc]
      exact e
/-- a set as it is made -/
abbrev newSet (w : World) : Obj := { cls := .type "set", dict := none, data := .set #[] 0 (.fresh 0 0 (!w.params.followText "set-order")) }
theorem tx_new {h : Heap} (e : h.get? a = some (newSet w)) : TxAt w h a [] := by
  refine ⟨_, #[], 0, .fresh 0 0 (!w.params.followText "set-order"), e, ⟨rfl, rfl, rfl⟩, rfl, fun e m => ?_, List.Perm.refl _, List.nodup_nil, by decide, by rfl, List.Pairwise.nil, ?_⟩
  · simp at m
  · show w.params.followText "set-order" = true ∨ (!w.params.followText "set-order") = true
    cases w.params.followText "set-order"
    · exact .inr rfl
    · exact .inl rfl
theorem sa_at : ∀ {us : List Value} {xs : List Str} {i : Nat} {v : Value}, StrsAre us xs → us[i]? = some v → ∃ x u, xs[i]? = some x ∧ v = .str x u
  | _, _, _, _, .nil, h => by simp at h
  | _, _, 0, _, .cons y t r, h => ⟨y, t, rfl, (Option.some.inj h).symm⟩
  | _, _, i + 1, _, .cons y t r, h => sa_at (i := i) r h
set_option maxHeartbeats 4000000 in
/-- set(xs), xs a list of texts -/
theorem call_set_tx {l : Addr} {items : Array Value} {xs : List Str} {Q : Value → Shared → Prop} (hh : A.handled = none) (hl : s.heap.IsList l items) (hi : StrsAre items.toList xs) (sm : xs.length + 1 < scanBound)
    (q : ∀ h1 tk ys, TxAt w h1 s.heap.objs.size ys → (∀ x, x ∈ ys ↔ x ∈ xs) → (∀ b o, s.heap.get? b = some o → h1.get? b = some o) → Q (.ref s.heap.objs.size) { s with heap := h1, toks := tk }) :
    wpAny (model P w) A (call (.type "set") [.ref l]) Q E s := by
  have isz : items.size = xs.length := by
    have := hi.length
    rw [Array.length_toList] at this
    exact this
  have hmade := F.called_set.made
  have hsub := F.called_set.sub
  have h1 := F.called_set.notType
  have h2 := F.called_set.canCreate
  have hct := F.typeCall_set_1 (.ref l)
  obtain ⟨c, tl, hmro⟩ := F.called_set.mro
  apply wpAny_call
  apply codeAny_of_tree
  show wpAny _ _ (callAny (.type "set") _) _ _ _
  apply wpAny_pure
  refine ⟨Code.quiet_builtin _ (by decide +kernel), codeAny_builtin F.entry_type_call ?_⟩
  rw [Around.under_plain (weight_type_call_type "set" [.ref l] []) rfl]
  repeat (any_goals (first | assumption | wp_step))
  refine codeAny_mono (code_set_led1 (.ref l) (E := E) (Q₁ := fun ob s1 => ob = .ref s.heap.objs.size ∧ s1 = { s with heap := s.heap.push (newSet w) }) ⟨rfl, rfl⟩) fun r s1 hr => ?_
  match r, hr with
  | .error e, hr => exact hr
  | .ok (.ret ob), ⟨e1, e2⟩ =>
    subst e1 e2
    have gS : (s.heap.push (newSet w)).get? s.heap.objs.size = some (newSet w) := Heap.get?_push_size _ rfl
    have hT : Shared.TypeIs { s with heap := s.heap.push (newSet w) } (.ref s.heap.objs.size) "set" := ⟨_, gS, rfl⟩
    have hli := F.called_set.init.lookup
    have hbi := F.called_set.init.bind (.ref s.heap.objs.size)
    repeat (any_goals (first | assumption | wp_step))
    refine codeAny_mono (codeAny_call_builtin (R := wants (fun r s2 => r = .none ∧ ∃ h1 tk ys, s2 = { s with heap := h1, toks := tk } ∧ TxAt w h1 s.heap.objs.size ys ∧ (∀ x, x ∈ ys ↔ x ∈ xs) ∧ ∀ b o, s.heap.get? b = some o → h1.get? b = some o) E)
      F.called_set.init.plain F.entry_set_init (check_set_init_1 hT ?_)) fun r2 s2 hr2 => ?_
    · obtain ⟨⟨lc, ldd, lda, lsl⟩, hol, hcl, nl, hdl⟩ := hl
      simp only at hcl hdl
      subst hcl hdl
      have gL : (s.heap.push (newSet w)).get? l = some { cls := .type "list", dict := ldd, data := .seq items nl, slots := lsl } := Heap.get?_push_of_some _ hol
      have i1 := F.sub_list_set
      have i2 := F.sub_list_frozenset
      have i3 : (Value.type "list" == Value.type "dict") = false := by decide
      have isL : (s.heap.push (newSet w)).IsList l items := ⟨_, gL, rfl, nl, rfl⟩
      have ltl : l < s.heap.objs.size := Heap.lt_size hol
      have zS : (s.heap.push (newSet w)).objs.size = s.heap.objs.size + 1 := Heap.size_push ..
      have hand : A.in1.in1.in1.handled = none := by simp [hh]
      unfold Builtin.«set.__init__» noKeywords Builtin.Frozenset.updateFrom
      generalize hPI : pyIter = PI
      wp_walk
      subst hPI
      refine wpAny_pyIter_list isL ?_
      apply wpAny_bind
      apply wpAny_runValue
      have neI : l ≠ (s.heap.push (newSet w)).objs.size := fun m => Nat.ne_of_lt (Nat.lt_succ_of_lt ltl) (m.trans zS)
      have outS : s.heap.objs.size ∉ [(s.heap.push (newSet w)).objs.size, l] := fun m => by
        rcases List.mem_cons.mp m with m | m
        · exact Nat.ne_of_lt (Nat.lt_succ_self _) (m.trans zS)
        · exact Nat.ne_of_gt ltl (List.mem_singleton.mp m)
      refine tx_loop ((Walks.list hand _ l neI items).toS) s.heap.objs.size outS xs isz sm (fun i v hv => ?_) (items.size - 0) 0 _ (by omega) (Nat.zero_le _)
        ⟨⟨_, Heap.get?_push_size _ rfl, rfl, rfl⟩, (isL.push _)⟩ ⟨[], tx_new (Heap.get?_push_of_some _ gS), fun x => by simp, Nat.zero_le _⟩ fun s3 ys mv T mem => ?_
      · have hv' : items.toList[i]? = some v := by rw [Array.getElem?_toList]; exact hv
        exact sa_at hi hv'
      · obtain ⟨h3, g3, d3, tk3, os3⟩ := s3
        obtain rfl : g3 = s.gens := mv.gens
        obtain rfl : d3 = s.drawn := mv.drawn
        obtain rfl : os3 = s.os := mv.os
        apply wpAny_pure
        apply wpAny_pure
        refine ⟨rfl, h3, tk3, ys, rfl, T, mem, fun b o e => ?_⟩
        have lb : b < s.heap.objs.size := Heap.lt_size e
        refine mv.heap b o (fun m => ?_) (Heap.get?_push_of_some _ (Heap.get?_push_of_some _ e))
        rcases List.mem_cons.mp m with m | m
        · exact Nat.ne_of_lt lb m
        · exact Nat.ne_of_lt (Nat.lt_succ_of_lt lb) ((List.mem_singleton.mp m).trans zS)
    · match r2, hr2 with
      | .error e, hr2 => exact hr2
      | .ok (.ret v), ⟨e1, h3, tk, ys, e2, T, mem, kp⟩ =>
        subst e1 e2
        repeat (any_goals (first | assumption | wp_step))
        exact q _ _ _ T mem kp
set_option maxHeartbeats 4000000 in
/-- sorted(such a set) -/
theorem call_sorted_tx {Q : Value → Shared → Prop} (T : TxAt w s.heap a zs) (hh : A.handled = none)
    (q : ∀ s1 p (out : Array Value) c ys, (∀ b o, s.heap.get? b = some o → s1.heap.get? b = some o) → s1.gens = s.gens → s1.os = s.os → s.heap.objs.size ≤ p → s1.heap.get? p = some (seqObj "list" out c) → StrsAre out.toList ys →
      ys.Perm zs → sortedS ys = true → Q (.ref p) s1) : wpAny (model P w) A (call (.builtin "sorted") [.ref a]) Q E s := by
  obtain ⟨o, es, ep, t, T⟩ := T
  have zsz := T.size
  refine Calls.call_function_entry kind_sorted plain_sorted entry_sorted (args_sorted1 _) ?_
  unfold Builtin.«sorted»
  refine wpAny_bind (m := checkCount "sorted" 1 1 _) ?_
  apply wpAny_pure
  apply wpAny_bind
  refine collect_set (A := A.in1) hh ⟨o, T.at_, T.ex.1, T.da⟩ T.fi T.sm T.ri T.le fun s1 vs k1 hz g1 o1 pm => ?_
  have vl : vs.length = zs.length := by rw [pm.length_eq, List.length_map, Array.length_toList, zsz]
  have small : vs.length ≤ sizeLine := by
    rw [vl, ← zsz]
    exact fits_of_scanBound T.sm
  have allTx : ∀ us : List Value, (∀ v ∈ us, ∃ x u, v = Value.str x u) → ∃ xs, StrsAre us xs ∧ xs = us.map fun v => match v with
      | .str x _ => x
      | _ => Str.empty := fun us => by
    induction us with
    | nil => exact fun _ => ⟨[], .nil, rfl⟩
    | cons v r ih =>
      intro h
      obtain ⟨x, u, rfl⟩ := h v List.mem_cons_self
      obtain ⟨xs, i1, i2⟩ := ih fun v m => h v (List.mem_cons_of_mem _ m)
      exact ⟨x :: xs, .cons x u i1, by rw [List.map_cons, ← i2]⟩
  obtain ⟨xs, hS, exs⟩ := allTx vs fun v m => by
    obtain ⟨e, he, z⟩ := List.mem_map.mp (pm.mem_iff.mp m)
    obtain ⟨x, u, e1, _⟩ := T.el e he
    exact ⟨x, u, z.symm.trans e1⟩
  have pz : xs.Perm zs := by
    have p1 := pm.map fun v => match v with
      | Value.str x _ => x
      | _ => Str.empty
    rw [← exs, List.map_map] at p1
    exact p1.trans T.pm
  apply wpAny_bind
  refine wpAny_newList ?_ small
  have gL : (s1.heap.push (seqObj "list" vs.toArray 0)).get? s1.heap.objs.size = some (seqObj "list" vs.toArray 0) := Heap.get?_push_size _ rfl
  apply wpAny_bind
  apply wpAny_holding
  refine wpAny_call_entry slot_list_sort ⟨_, gL, rfl⟩ entry_list_sort (list_sort_treeKAny strKind_oneLt gL hS.keysOf (fun v1 v2 rest e => keyKind_strs (by rw [← e]; exact hS)) small fun st hp hs => ?_) (args_list_sort _)
  obtain ⟨ys, y1, y2, y3⟩ := sorted_out_str hS hp hs
  obtain ⟨c, hc⟩ := sortedHeap_at (vs := vs) (out := (arrOf st).map (·.2)) gL
  refine ⟨_, rfl, ?_⟩
  apply wpAny_pure
  refine ⟨_, rfl, q _ s1.heap.objs.size _ c ys (fun b u e => ?_) g1 o1 hz hc y1 (y2.trans pz) y3⟩
  have e1 := k1 b u e
  have lb := Heap.lt_size e1
  have e2 := Heap.get?_push_of_some (seqObj "list" vs.toArray 0) e1
  refine (sortedHeap_old (Nat.ne_of_lt lb) ?_).trans e2
  rw [Heap.size_push]
  exact Nat.lt_succ_of_lt lb
end
/-! ### as rules of the layer -/
def SetX (w : World) (a : Addr) (zs : List Str) : HO := .ext fun h => TxAt w h a zs
theorem setX_new {P : Program} {w : World} {H : Hp} {h : Heap} {a : Addr} {zs : List Str} (T : TxAt w h a zs) : ObjOk P w H h a (SetX w a zs) :=
  ⟨T, let ⟨o, _, _, _, t⟩ := T; ⟨o, t.at_⟩, fun h1 h2 t k => t.keep k⟩
section
variable {X : Cx}
def rSetX (w : World) : List V → Hp → VK → Prop := fun vs H Q => ∃ (l : Addr) (xs : List Str), vs = [.ref l] ∧ H l = some (.lst (xs.map V.str)) ∧ xs.length ≤ 4000 ∧
  ∀ p ys, H p = none → (∀ x, x ∈ ys ↔ x ∈ xs) → Q (.ref p) (upd H p (SetX w p ys))
theorem cr_setX (hc : X.calm = true) : CallR X (.type "set") (rSetX X.w) := by
  intro pins s σ H vs us Q I r h
  obtain ⟨l, xs, rfl, hl, hz, q⟩ := h
  obtain ⟨its, rv, pl, _⟩ := I.list (.inl (.inl hl))
  rw [Vals.ref1 r]
  refine call_set_tx (P := X.prog) (w := X.w) (I.ok.hd hc) pl.isList rv.strs (by unfold scanBound; omega) fun h1 tk ys T mem k => ?_
  exact ⟨.ref s.heap.objs.size, _, I.laid (t' := tk) k (Nat.le_refl _) (setX_new T), rfl, q _ ys (I.hok.fresh (Nat.le_refl _)) mem⟩
def rSortX (w : World) : List V → Hp → VK → Prop := fun vs H Q => ∃ (a : Addr) (zs : List Str), vs = [.ref a] ∧ H a = some (SetX w a zs) ∧
  ∀ p ys, H p = none → ys.Perm zs → sortedS ys = true → ys.Nodup → Q (.ref p) (upd H p (.lst (ys.map V.str)))
theorem cr_sortX (hc : X.calm = true) : CallR X (.builtin "sorted") (rSortX X.w) := by
  intro pins s σ H vs us Q I r h
  obtain ⟨a, zs, rfl, ha, q⟩ := h
  have T : TxAt X.w s.heap a zs := (I.hok a _ ha).1
  have nd : zs.Nodup := let ⟨_, _, _, _, t⟩ := T; t.nd
  have lz : zs.length ≤ sizeLine := let ⟨_, _, _, _, t⟩ := T; by rw [← t.size]; exact fits_of_scanBound t.sm
  rw [Vals.ref1 r]
  refine call_sorted_tx (P := X.prog) (w := X.w) T (I.ok.hd hc) fun s1 p out c ys k hg ho hp gp hS pm srt => ?_
  have hn : H p = none := I.hok.fresh hp
  obtain ⟨h1, g1, d1, t1, os1⟩ := s1
  obtain rfl : g1 = s.gens := hg
  obtain rfl : os1 = s.os := ho
  have hlen : (ys.map V.str).length ≤ sizeLine := by rw [List.length_map, pm.length_eq]; exact lz
  have J : Inv X pins σ (upd H p (.lst (ys.map V.str))) { heap := h1, gens := s.gens, drawn := d1, toks := t1, os := s.os } :=
    I.call (h' := h1) (g' := s.gens) (d' := d1) (t' := t1) (ch := []) (Un.laid k hp hn) (I.hok.laid k hp ⟨hlen, out.toList, c, vals_of_strs hS, gp⟩) I.bare (fun _ z => nomatch z)
  exact ⟨.ref p, _, J, rfl, q p ys hn pm srt (pm.nodup_iff.mpr nd)⟩
end
end Lp
set_option Elab.async false
set_option linter.all false
set_option maxRecDepth 100000
set_option maxHeartbeats 1000000
/-! Lp, part nine: more of texts, lists that are filled, more comprehensions. -/
namespace Lp
open PySem PySem.Spec L2
/-! ### texts -/
def repS (x : Str) (n : Nat) : Str := ⟨((List.replicate n x.cps.toList).flatten).toArray⟩
theorem str_ext {x y : Str} (h : x.cps.toList = y.cps.toList) : x = y := by
  obtain ⟨⟨a⟩⟩ := x
  obtain ⟨⟨b⟩⟩ := y
  have e : a = b := h
  rw [e]
theorem repS_len (x : Str) (n : Nat) : (repS x n).length = n * x.length := by
  show (((List.replicate n x.cps.toList).flatten).toArray).size = _
  rw [List.size_toArray, List.length_flatten, List.map_replicate, List.sum_replicate_nat]
  rfl
theorem fold_cat (x : Array Nat) : ∀ (n : Nat) (acc : Array Nat), ((List.replicate n x).foldl (· ++ ·) acc).toList = acc.toList ++ (List.replicate n x.toList).flatten
  | 0, acc => by simp
  | n + 1, acc => by
    rw [List.replicate_succ, List.foldl_cons, fold_cat x n, Array.toList_append, List.replicate_succ, List.flatten_cons, List.append_assoc]
section
variable {X : Cx} {p : OA} {σ : St} {H H' : Hp} {e a b c : Expr} {es : List Expr} {pos ps : Pos} {α β γ : Type} [Enc α] [Enc β] [Enc γ] {D : Ends}
theorem op_mulS : OpR X (binaryOp .Mult) (fun x y H Q => ∃ (z : Str) (n : Nat), x = .str z ∧ y = .int (n : Int) ∧ n < 2 ^ 62 ∧ z.length < 2 ^ 62 ∧ n * z.length ≤ sizeLine ∧ Q (.str (repS z n)) H) := by
  intro pins s σ H x y v u Q I rx ry h
  obtain ⟨z, n, rfl, rfl, hn, hz2, hz, q⟩ := h
  obtain ⟨t, rfl⟩ := rx
  obtain ⟨t2, rfl⟩ := ry
  have r1 : (decide ((n : Int) < -(2 ^ 63 : Int)) || decide ((n : Int) ≥ 2 ^ 63)) = false := by
    rw [decide_eq_false (show ¬ (n : Int) < -(2 ^ 63 : Int) by omega), decide_eq_false (show ¬ (n : Int) ≥ 2 ^ 63 by omega)]
    rfl
  have sl : (sizeLine : Nat) = 16777216 := sizeLine_eq
  refine PySem.P.mul_str r1 (fun h1 _ h2 => ?_) (fun h1 _ => ?_) ?_
  · have e1 : (z.length : Int) ≤ (2 ^ 63 - 1) / (n : Int) := by
      refine (Int.le_ediv_iff_mul_le (by omega)).mpr ?_
      have e2 : ((n * z.length : Nat) : Int) ≤ 16777216 := by omega
      rw [Int.natCast_mul] at e2
      rw [Int.mul_comm]
      omega
    omega
  · unfold Builtin.Str.tooLong
    rw [Int.toNat_natCast, Nat.mul_comm]
    exact decide_eq_false (by omega)
  · by_cases c1 : (n : Int) < 1
    · rw [if_pos c1]
      have e0 : n = 0 := by omega
      subst e0
      exact ⟨by decide, ⟨.str (repS z 0), H, I.tok _, ⟨_, rfl⟩, q⟩⟩
    · rw [if_neg c1]
      by_cases c2 : ((n : Int) == 1 || z.length == 0) = true
      · rw [if_pos c2]
        have ez : repS z n = z := by
          refine str_ext ?_
          show (List.replicate n z.cps.toList).flatten = z.cps.toList
          rw [Bool.or_eq_true, beq_iff_eq, beq_iff_eq] at c2
          rcases c2 with c2 | c2
          · have : n = 1 := by omega
            rw [this]
            simp
          · have : z.cps.toList = [] := by
              have e3 : z.cps.size = 0 := c2
              exact List.eq_nil_of_length_eq_zero (by rw [Array.length_toList]; exact e3)
            rw [this]
            simp
        rw [ez] at q
        exact ⟨.str z, H, I, ⟨_, rfl⟩, q⟩
      · rw [if_neg c2]
        have ez : (⟨(List.replicate (n : Int).toNat z.cps).foldl (· ++ ·) #[]⟩ : Str) = repS z n := by
          refine str_ext ?_
          show ((List.replicate (n : Int).toNat z.cps).foldl (· ++ ·) #[]).toList = (List.replicate n z.cps.toList).flatten
          rw [fold_cat, Int.toNat_natCast]
          simp
        rw [ez]
        exact ⟨by rw [repS_len]; exact hz, ⟨.str (repS z n), H, I.tok _, ⟨_, rfl⟩, q⟩⟩
theorem v_mulS {z : Str} {n : Nat} (ha : JV X p a σ H z) (hb : JV X p b σ H (n : Int)) (h1 : n < 2 ^ 62) (h2 : z.length < 2 ^ 62) (h3 : n * z.length ≤ sizeLine) : JV X p (.BinOp a .Mult b pos) σ H (repS z n) :=
  v_bin op_mulS ha hb fun J v w dk rx ry Q q => by
    cases rep_str rx
    cases rep_int ry
    exact ⟨z, n, rfl, rfl, h1, h2, h3, q _ J (.refl dk) (.str _)⟩
theorem v_addS {x y : Str} (ha : JV X p a σ H x) (hb : JV X p b σ H y) (h : x.length + y.length ≤ sizeLine) : JV X p (.BinOp a .Add b pos) σ H (x ++ y) :=
  v_bin op_add_str ha hb fun J v w dk rx ry Q q => by
    cases rep_str rx
    cases rep_str ry
    exact ⟨x, y, rfl, rfl, h, q _ J (.refl dk) (.str _)⟩
/-- a <= b <= c -/
theorem v_chain {x y z : Int} (ha : JV X p a σ H x) (hb : JV X p b σ H y) (hc : JV X p c σ H z) (hmk : lastMarks [.LtE, .LtE] [b, c] = false := by with_unfolding_all rfl) :
    JV X p (.Compare a [.LtE, .LtE] [b, c] pos) σ H (decide (x ≤ y) && decide (y ≤ z)) := fun H1 g Q q =>
  of_pe (pe_chain op_le op_le semE semE semE hmk) (ha H1 g _ fun v H2 i g2 pi rx => hb H2 (g.trans g2) _ fun w H3 j g3 pj ry => by
    subst pi pj
    cases rep_int rx
    cases rep_int ry
    refine ⟨i, j, rfl, rfl, decide (i ≤ j), rfl, ?_⟩
    cases hd : decide (i ≤ j) with
    | false => exact iteF (q _ H3 _ (g2.trans g3) (by show false = (decide (i ≤ j) && decide (j ≤ z)); rw [hd]; rfl) (.bl false))
    | true => exact iteT (hc H3 ((g.trans g2).trans g3) _ fun u H4 k g4 pk rz => by
        subst pk
        cases rep_int rz
        exact ⟨j, k, rfl, rfl, q _ H4 _ ((g2.trans g3).trans g4) (by show decide (j ≤ k) = (decide (i ≤ j) && decide (j ≤ k)); rw [hd]; rfl) (.bl _)⟩))
/-- a in range(lo, hi) -/
theorem v_inR {x lo hi : Int} {lc hc : Expr} {pr : Pos} (ha : JV X p a σ H x) (hl : JV X p lc σ H lo) (hh : JV X p hc σ H hi) (hm : X.mg "range" = none) (hg : Gl X "range" := by rfl)
    (hmk : behindInMarks .In (.Call (.Name "range" pr) [lc, hc] [] ps) = false := by first | exact nomark _ | rfl)
    (he : starEach [lc, hc] X.env = (false, eval lc X.env) :: starEach [hc] X.env := by rfl) (he2 : starEach [hc] X.env = (false, eval hc X.env) :: starEach [] X.env := by rfl) (hpl : (backTo ps (starEach [hc] X.env)).any (·.1) = false := by rfl) :
    JV X p (.Compare a [.In] [.Call (.Name "range" pr) [lc, hc] [] ps] pos) σ H (decide (lo ≤ x ∧ x < hi)) := fun H1 g Q q =>
  of_pe (pe_cmpR op_in_rng semE (pe_callTy cr_range2 hg hm (by decide +kernel) (pa_cons semE (pa_cons semE pa_nil he2) he) (by decide) (by decide) he hpl) hmk) (ha H1 g _ fun v H2 i g2 pi rx => hl H2 (g.trans g2) _ fun u H3 j g3 pj ry => hh H3 ((g.trans g2).trans g3) _ fun w H4 k g4 pk rz => by
    subst pi pj pk
    cases rep_int rx
    cases rep_int ry
    cases rep_int rz
    refine ⟨j, k, rfl, fun r hr => ⟨i, r, j, k, rfl, rfl, upd_same, ?_⟩⟩
    exact q _ _ _ (((g2.trans g3).trans g4).trans (.new g4.dk hr)) rfl (.bl _))
/-- sorted(set(e)) -/
theorem j_sortSet {A : List Str → Prop} {x1 p1 p2 q1 q2 : Pos} (hc : X.calm = true) (hm1 : X.mg "sorted" = none) (hm2 : X.mg "set" = none) (ha : JE X p e σ H (fun d : PyData => ∃ xs : List Str, A xs ∧ d = .list (xs.map .str))) (hz : ∀ xs, A xs → xs.length ≤ 4000)
    (hg1 : Gl X "sorted" := by rfl) (hg2 : Gl X "set" := by rfl) (he : starEach [e] X.env = (false, eval e X.env) :: starEach [] X.env := by rfl) (he2 : starEach [.Call (.Name "set" p2) [e] [] q2] X.env = (false, eval (.Call (.Name "set" p2) [e] [] q2) X.env) :: starEach [] X.env := by rfl)
    (hp1 : (backTo q1 (starEach [] X.env)).any (·.1) = false := by rfl) (hp2 : (backTo q2 (starEach [] X.env)).any (·.1) = false := by rfl) :
    JE X p (.Call (.Name "sorted" p1) [.Call (.Name "set" p2) [e] [] q2] [] q1) σ H (fun d : PyData => ∃ xs ys : List Str, A xs ∧ PyProof.Rows.sortedS ys = true ∧ ys.Nodup ∧ (∀ x, x ∈ ys ↔ x ∈ xs) ∧ d = .list (ys.map .str)) := fun H1 g Q q =>
  of_pe (pe_callB (cr_sortX hc) hg1 hm1 (by decide +kernel) (pa_cons (pe_callTy (cr_setX hc) hg2 hm2 (by decide +kernel) (pa_cons semE pa_nil he) (by decide) (by decide) he hp2) pa_nil he2) (by decide) (by decide) he2 hp1)
    (ha H1 g _ fun v H2 d g2 ⟨xs, ax, ed⟩ rx => by
      subst ed
      cases rx with
      | lst sx rr =>
        have ev := reps_strs rr
        subst ev
        refine ⟨_, xs, rfl, del_of sx, hz xs ax, fun m ys hm mem => ⟨m, ys, rfl, upd_same, fun l zs hl pm srt nd => ?_⟩⟩
        have g3 : Go p H2 (upd H2 m (SetX X.w m ys)) := .new g2.dk hm
        have g4 := Go.new (o := .lst (zs.map V.str)) g3.dk hl
        exact q _ _ _ ((g2.trans g3).trans g4) ⟨xs, zs, ax, srt, nd, fun x => pm.mem_iff.trans (mem x), rfl⟩ (.lst (del_upd g3.dk hl) (strs_reps zs)))
/-- s[i] by bounds: some sign -/
theorem j_sign {z : Str} {B : Int → Prop} (ha : JV X p a σ H z) (hb : JE X p b σ H B) (hz : z.length ≤ 100000) (h : ∀ i, B i → 0 ≤ i ∧ i < z.length) (hs : PlainIxT b := by exact fun _ _ => rfl) : JE X p (.Subscript a b pos) σ H (fun d : PyData => ∃ c, c ∈ z.cps.toList ∧ d = .str ⟨#[c]⟩) := fun H1 g Q q =>
  of_pe (pe_ix ix_str semE semE hs) (ha H1 g _ fun v H2 i g2 pi rx => hb H2 (g.trans g2) _ fun w H3 j g3 pj ry => by
    subst pi
    cases rep_str rx
    cases rep_int ry
    obtain ⟨h0, h1⟩ := h j pj
    have e1 : i.cps.toList.length = i.length := Array.length_toList
    have hk : j.toNat < i.cps.toList.length := by omega
    have hv := List.getElem?_eq_getElem hk
    have ha := atI_nat hv
    rw [Int.toNat_of_nonneg h0] at ha
    exact ⟨i, j, _, rfl, rfl, Evl.sz_of hz, ha, q _ H3 _ (g2.trans g3) ⟨_, List.mem_of_getElem? hv, rfl⟩ (.str _)⟩)
/-- x, y = e1, e2 (two names) -/
theorem s_par {A : α → Prop} {B : β → Prop} {x y : Str} {px py pt : Pos} {kt k2 pt2} (i j : Nat) (dk : DOk p H) (hc : X.calm = true) (nd : X.N.Nodup) (ha : JE X p a σ H A) (hb : JE X p b σ H B)
    (k : ∀ v1 v2 H1 u1 u2, Go p H H1 → A u1 → B u2 → Rep X.K (del p H1) v1 (enc u1) → Rep X.K (del p H1) v2 (enc u2) → D.nx ((σ.set i (some v1)).set j (some v2)) H1) (hij : i ≠ j) (hi : X.N[i]? = some x := by rfl) (hj : X.N[j]? = some y := by rfl)
    (hx : X.env.scope.names.lookup x = some .local := by rfl) (hy : X.env.scope.names.lookup y = some .local := by rfl) (hw : swappedStores [.Tuple [.Name x px, .Name y py] kt pt] (.Tuple [a, b] k2 pt2) X.env = pure (some [x, y]) := by rfl)
    (hs : swapsWithSole [.Tuple [.Name x px, .Name y py] kt pt] (.Tuple [a, b] k2 pt2) pos.line X.env = pure false := by rfl) (he : starEach [a, b] X.env = (false, eval a X.env) :: starEach [b] X.env := by rfl) (he2 : starEach [b] X.env = (false, eval b X.env) :: starEach [] X.env := by rfl) :
    SemS X (.Assign [.Tuple [.Name x px, .Name y py] kt pt] (.Tuple [a, b] k2 pt2) pos) D σ H :=
  of_ps (ps_par hc nd hi hj hij hx hy (pa_cons semE (pa_cons semE pa_nil he2) he) hw hs) (ha H (.refl dk) _ fun v H1 u g1 pu r1 => hb H1 g1 _ fun v2 H2 u2 g2 pu2 r2 => ⟨v, v2, rfl, k v v2 H2 u u2 (g1.trans g2) pu pu2 (r1.go g2) r2⟩)
/-! ### a list that is filled -/
/-- x = [] -/
theorem s_new {x : Str} {px pe : Pos} (i : Nat) (dk : DOk p H) (nd : X.N.Nodup) (k : ∀ l, H l = none → D.nx (σ.set i (some (.ref l))) (upd H l (.lst []))) (hi : X.N[i]? = some x := by rfl) (hx : Loc X.env.scope x := by exact Or.inl rfl)
    (hs : swapsWith (.List [] pe) (some (.Name x px)) pos.line X.env = pure false := by rfl) (hf : X.fn x = true ∨ X.env.scope.names.lookup x = some .local := by first | exact .inl rfl | exact .inr rfl) : SemS X (.Assign [.Name x px] (.List [] pe) pos) D σ H :=
  of_ps (ps_set (i := i) nd hi hx (pe_lst pa_nil) hs hf) ⟨Nat.zero_le _, fun l hl => k l hl⟩
/-- the list at l is being filled: it holds ds -/
def Fill (X : Cx) (p : OA) (l : Addr) (J : Hp) (ds : List PyData) : Prop := ∃ xs, J l = some (.lst xs) ∧ Reps X.K (del (p.add l) J) xs ds
theorem Fill.go {l : Addr} {J J1 : Hp} {ds : List PyData} (f : Fill X p l J ds) (n : p.d ≠ some l) (g : Go (p.add l) J J1) : Fill X p l J1 ds := by
  obtain ⟨xs, e, r⟩ := f
  exact ⟨xs, g.ex l _ n e, r.go g⟩
theorem Fill.rep {l : Addr} {J : Hp} {ds : List PyData} (f : Fill X p l J ds) (n : ¬ Hid p l) : Rep X.K (del p J) (.ref l) (.list ds) := by
  obtain ⟨xs, e, r⟩ := f
  exact .lst (by rw [del_at n]; exact e) r.sub
/-- x.append(e) -/
theorem s_append {P : α → Prop} {x : Str} {px pa : Pos} {l : Addr} {ds : List PyData} (i : Nat) (dk : DOk (p.add l) H) (hs : σ[i]? = some (some (.ref l))) (n : p.d ≠ some l) (f : Fill X p l H ds) (hz : ds.length < sizeLine) (h : JE X (p.add l) e σ H P)
    (k : ∀ H1 H2 u, Go (p.add l) H H1 → P u → Fill X p l H2 (ds ++ [enc u]) → (∀ b, b ≠ l → H2 b = H1 b) → DOk (p.add l) H2 → D.nx σ H2)
    (hN : X.N[i]? = some x := by rfl) (hv : Vis X.env.scope x := by first | exact Or.inl rfl | exact Or.inr (Or.inl rfl) | exact Or.inr (Or.inr rfl)) (hd : (x == ("__debug__" : Str)) = false := by decide) (hcd : (x == ("__classdict__" : Str)) = false := by decide)
    (hba : attributeBase (.Name x px) "append" X.env (eval (.Name x px) X.env) = eval (.Name x px) X.env := by rfl) (hl : (pa.endLine == ps.line) = true := by rfl)
    (hfew : ((backTo ps (starEach [e] X.env)).all (fun x => !x.1) && (backToKw ps (keywordEach [] X.env)).all (fun x => x.1.isSome) && decide ([e].length + ([] : List Keyword).length + (if ([] : List Keyword).isEmpty then 0 else 1) < 30)) = true := by rfl)
    (he : starEach [e] X.env = (false, eval e X.env) :: starEach [] X.env := by rfl) (hpl : (backTo ps (starEach [] X.env)).any (·.1) = false := by rfl) (hsw : swapsWith (.Call (.Attribute (.Name x px) "append" pa) [e] [] ps) none pos.line X.env = pure false := by rfl) :
    SemS X (.Expr (.Call (.Attribute (.Name x px) "append" pa) [e] [] ps) pos) D σ H :=
  of_ps (ps_expr (pe_bm PySem.F.plainAttrs_list PySem.F.slot_list_append PySem.F.type_list_append mt_append (pv i hN hv hd hcd) (pa_cons semE pa_nil he) hba hfew hl he hpl) hsw) (by
    obtain ⟨xs, e1, r⟩ := f
    refine ⟨_, hs, .inl ⟨rfl, _, .inl (.inl e1)⟩, h H (.refl dk) _ fun v H1 u g pu ru => ?_⟩
    have e2 := g.ex l _ n e1
    refine ⟨l, xs, v, rfl, rfl, e2, by rw [r.len]; exact hz, k H1 _ u g pu ⟨xs ++ [v], upd_same, Reps.mono del_put ((r.go g).app (.cons ru .nil))⟩ (fun b nb => upd_ne nb) ⟨fun c ec => ?_, fun c m => ?_⟩⟩
    · obtain ⟨x1, x2, x3, z⟩ := g.dk.di c ec
      exact ⟨x1, x2, x3, by rw [upd_ne (fun y => n (by rw [ec, y]))]; exact z⟩
    · by_cases cl : c = l
      · rw [cl, upd_same]
        exact Option.some_ne_none _
      · rw [upd_ne cl]
        exact g.dk.lv c m)
/-- x.extend(e), e a list -/
theorem s_extend {P : List PyData → Prop} {x : Str} {px pa : Pos} {l : Addr} {ds : List PyData} (i : Nat) (dk : DOk (p.add l) H) (hs : σ[i]? = some (some (.ref l))) (n : p.d ≠ some l) (f : Fill X p l H ds) (h : JE X (p.add l) e σ H (fun d : PyData => ∃ zs, P zs ∧ d = .list zs)) (hz : ∀ zs, P zs → ds.length + zs.length ≤ sizeLine)
    (k : ∀ H1 H2 zs, Go (p.add l) H H1 → P zs → Fill X p l H2 (ds ++ zs) → (∀ b, b ≠ l → H2 b = H1 b) → DOk (p.add l) H2 → D.nx σ H2)
    (hN : X.N[i]? = some x := by rfl) (hv : Vis X.env.scope x := by first | exact Or.inl rfl | exact Or.inr (Or.inl rfl) | exact Or.inr (Or.inr rfl)) (hd : (x == ("__debug__" : Str)) = false := by decide) (hcd : (x == ("__classdict__" : Str)) = false := by decide)
    (hba : attributeBase (.Name x px) "extend" X.env (eval (.Name x px) X.env) = eval (.Name x px) X.env := by rfl) (hl : (pa.endLine == ps.line) = true := by rfl)
    (hfew : ((backTo ps (starEach [e] X.env)).all (fun x => !x.1) && (backToKw ps (keywordEach [] X.env)).all (fun x => x.1.isSome) && decide ([e].length + ([] : List Keyword).length + (if ([] : List Keyword).isEmpty then 0 else 1) < 30)) = true := by rfl)
    (he : starEach [e] X.env = (false, eval e X.env) :: starEach [] X.env := by rfl) (hpl : (backTo ps (starEach [] X.env)).any (·.1) = false := by rfl) (hsw : swapsWith (.Call (.Attribute (.Name x px) "extend" pa) [e] [] ps) none pos.line X.env = pure false := by rfl) :
    SemS X (.Expr (.Call (.Attribute (.Name x px) "extend" pa) [e] [] ps) pos) D σ H :=
  of_ps (ps_expr (pe_bm PySem.F.plainAttrs_list PySem.F.slot_list_extend PySem.F.type_list_extend mt_extend (pv i hN hv hd hcd) (pa_cons semE pa_nil he) hba hfew hl he hpl) hsw) (by
    obtain ⟨xs, e1, r⟩ := f
    refine ⟨_, hs, .inl ⟨rfl, _, .inl (.inl e1)⟩, h H (.refl dk) _ fun v H1 d g ⟨zs, pz, ed⟩ ru => ?_⟩
    subst ed
    cases ru with
    | lst s2 r2 =>
      have e2 := g.ex l _ n e1
      refine ⟨l, _, xs, _, rfl, rfl, e2, del_of s2, by rw [r.len, r2.len]; exact hz zs pz, k H1 _ zs g pz ⟨_, upd_same, Reps.mono del_put ((r.go g).app r2)⟩ (fun b nb => upd_ne nb) ⟨fun c ec => ?_, fun c m => ?_⟩⟩
      · obtain ⟨x1, x2, x3, z⟩ := g.dk.di c ec
        exact ⟨x1, x2, x3, by rw [upd_ne (fun y => n (by rw [ec, y]))]; exact z⟩
      · by_cases cl : c = l
        · rw [cl, upd_same]
          exact Option.some_ne_none _
        · rw [upd_ne cl]
          exact g.dk.lv c m)
/-- for x in e, e a tuple -/
theorem s_forT {it : Expr} {body : List Stmt} {x : Str} {px : Pos} {P : List PyData → Prop} (i : Nat) (dk : DOk p H) (hpa : PassesOwn (model X.prog X.w) X.A X.env X.xe) (hc : X.calm = true) (nd : X.N.Nodup) (h : JE X p it σ H (fun d : PyData => ∃ ds, P ds ∧ d = .tuple ds))
    (I : Hp → List PyData → Nat → St → Hp → Prop) (h0 : ∀ H1 ds, Go p H H1 → P ds → I H1 ds 0 σ H1) (hk : ∀ H1 ds k σ' H', Go p H H1 → I H1 ds k σ' H' → ∀ b o, p.d ≠ some b → del p H1 b = some o → H' b = some o)
    (hs : ∀ H1 ds k d v σ' H', Go p H H1 → P ds → ds[k]? = some d → I H1 ds k σ' H' → Rep X.K (del p H1) v d → SemSs X body { D with nx := I H1 ds (k + 1), ct := I H1 ds (k + 1), bk := D.nx } (σ'.set i (some v)) H')
    (hd : ∀ H1 ds σ' H', Go p H H1 → P ds → I H1 ds ds.length σ' H' → D.nx σ' H') (hi : X.N[i]? = some x := by rfl) (hx : Loc X.env.scope x := by exact Or.inl rfl) (hf : X.fn x = true ∨ X.env.scope.names.lookup x = some .local := by first | exact .inl rfl | exact .inr rfl)
    (hfs : ∀ y, foldedSetIterable it X.env y = pure y := by intro _; rfl) : SemS X (.For (.Name x px) it body [] pos) D σ H :=
  of_ps (ps_for hpa hc (pi_tup semE) (pg_name nd hi hx hf) semSs hfs) (h H (.refl dk) _ fun v H1 d g ⟨ds, pd, ed⟩ r => by
    subst ed
    cases r with
    | tup s rr =>
      have hl := rr.len
      have ex : ∀ H' : Hp, (∀ b o, p.d ≠ some b → del p H1 b = some o → H' b = some o) → ∀ b o, del p H1 b = some o → H' b = some o := fun H' z b o e => z b o (fun y => del_no e (.inl y)) e
      refine ⟨_, rfl, ⟨_, tu_del s⟩, for_tup (fun k σ' H' => I H1 ds k σ' H') (h0 H1 ds g pd) (fun k σ' H' _ z => tu_ex (ex H' (hk H1 ds k σ' H' g z)) s) (fun k x σ' H' ey z => ?_) (fun σ' H' z => ?_)⟩
      · obtain ⟨d, ed, rd⟩ := rr.get ey
        exact hs H1 ds k d x σ' H' g pd ed z rd
      · rw [hl] at z
        exact hd H1 ds σ' H' g pd z)
/-- for x in e, e a list; what is hidden may change meanwhile -/
theorem s_forF {it : Expr} {body : List Stmt} {x : Str} {px : Pos} {P : List PyData → Prop} (i : Nat) (dk : DOk p H) (hpa : PassesOwn (model X.prog X.w) X.A X.env X.xe) (hc : X.calm = true) (nd : X.N.Nodup) (h : JE X p it σ H (fun d : PyData => ∃ ds, P ds ∧ d = .list ds))
    (I : Hp → List PyData → Nat → St → Hp → Prop) (h0 : ∀ H1 ds, Go p H H1 → P ds → I H1 ds 0 σ H1) (hk : ∀ H1 ds k σ' H', Go p H H1 → I H1 ds k σ' H' → ∀ b o, del p H1 b = some o → H' b = some o)
    (hs : ∀ H1 ds k d v σ' H', Go p H H1 → P ds → ds[k]? = some d → I H1 ds k σ' H' → Rep X.K (del p H') v d → SemSs X body { D with nx := I H1 ds (k + 1), ct := I H1 ds (k + 1), bk := D.nx } (σ'.set i (some v)) H')
    (hd : ∀ H1 ds σ' H', Go p H H1 → P ds → I H1 ds ds.length σ' H' → D.nx σ' H') (hi : X.N[i]? = some x := by rfl) (hx : Loc X.env.scope x := by exact Or.inl rfl) (hf : X.fn x = true ∨ X.env.scope.names.lookup x = some .local := by first | exact .inl rfl | exact .inr rfl)
    (hfs : ∀ y, foldedSetIterable it X.env y = pure y := by intro _; rfl) : SemS X (.For (.Name x px) it body [] pos) D σ H :=
  of_ps (ps_for hpa hc (pi_list semE) (pg_name nd hi hx hf) semSs hfs) (h H (.refl dk) _ fun v H1 d g ⟨ds, pd, ed⟩ r => by
    subst ed
    cases r with
    | lst s rr =>
      have hl := rr.len
      have up : ∀ {k σ' H'}, I H1 ds k σ' H' → ∀ b o, del p H1 b = some o → del p H' b = some o := fun z b o e => by
        rw [del_at (del_no e)]
        exact hk H1 ds _ _ _ g z b o e
      refine ⟨_, rfl, ⟨_, ls_q s⟩, for_list (fun k σ' H' => I H1 ds k σ' H') (h0 H1 ds g pd) (fun k σ' H' _ z => ls_q (up z _ _ s)) (fun k x σ' H' ex z => ?_) (fun σ' H' z => ?_)⟩
      · obtain ⟨d, ed, rd⟩ := rr.get ex
        exact hs H1 ds k d x σ' H' g pd ed z (rd.mono (up z))
      · rw [hl] at z
        exact hd H1 ds σ' H' g pd z)
end
/-! ### comprehensions without a test -/
section
variable {X : Cx} {p : OA} {σ : St} {H H' : Hp} {it elt e : Expr} {pos : Pos} {D : Ends}
theorem j_lc0 {x : Str} {px : Pos} {sc : Scope} {P : List PyData → Prop} {g : PyData → PyData} (i : Nat) (hc : X.calm = true) (nd : X.N.Nodup) (hl : JE X p it σ H (fun d : PyData => ∃ ds, P ds ∧ d = .list ds)) (hz : ∀ ds, P ds → ds.length ≤ sizeLine)
    (ok : BlkOk X.N X.env.scope sc [(x, i)])
    (he : ∀ ds d v J q, P ds → d ∈ ds → Gq p q H J → Rep X.K (del (p.add q) J) v d → JEB X sc (p.add q) elt (σ.set i (some v)) J (fun r : PyData => r = g d))
    (hi : X.N[i]? = some x := by rfl) (hx : sc.names.lookup x = some .local := by rfl) (hs : ∀ y, foldedSetIterable it X.env y = pure y := by intro _; rfl) :
    JE X p (.ListComp elt [⟨.Name x px, it, [], 0⟩] sc pos) σ H (fun d : PyData => ∃ ds, P ds ∧ d = .list (ds.map g)) := fun H1 g1 Q q =>
  of_pe (pe_lc (own := [(x, i)]) (g := gName i) (tt := tYes) (te := SemEB X sc elt) hc nd (pi_list semE) ok
      (fun s J C cl fp => pg_name nd hi (show L2.Loc (compEnvC sc cl C X.env).scope x from .inl (lookup_relabel_local hx)) (.inr (show (compEnvC sc cl C X.env).scope.names.lookup x = some .local from lookup_relabel_local hx)))
      (fun s J C cl fp => pts_nil) (fun s J C cl fp => ⟨fun pins st _ _ _ I h => (h s J C cl fp).run pins st I⟩) hs)
    (lc_read (K := X.K) (f := fun _ => true) (g := g) hl hz (fun ds d v J q pd md gs r Q k => k J (.refl gs.dk))
      (fun ds d v J q pd md hf gs r Q k s J' C cl fp => he ds d v J q pd md gs r s J' C cl fp J (.refl gs.dk) Q fun v H2 a g2 ea rv => by subst ea; exact k v H2 g2 rv) H1 g1 Q fun v H2 d g2 ⟨ds, pd, ed⟩ r => q v H2 d g2 ⟨ds, pd, by rw [ed, List.filter_eq_self.mpr fun _ _ => rfl]⟩ r)
/-- [elt for x in range(e)], of whose elements A holds -/
theorem j_lcR {x : Str} {px pr ps : Pos} {sc : Scope} {P : Int → Prop} {A : PyData → Prop} (i : Nat) (hc : X.calm = true) (nd : X.N.Nodup) (hm : X.mg "range" = none) (h : JE X p e σ H P) (hz : ∀ n, P n → 0 ≤ n ∧ n ≤ 100000)
    (ok : BlkOk X.N X.env.scope sc [(x, i)])
    (he : ∀ (k : Nat) J q, Gq p q H J → JEB X sc (p.add q) elt (σ.set i (some (.int (k : Int)))) J A)
    (hg : Gl X "range" := by rfl) (hi : X.N[i]? = some x := by rfl) (hx : sc.names.lookup x = some .local := by rfl) (hse : starEach [e] X.env = [(false, eval e X.env)] := by rfl) (hse1 : starEach [e] X.env = (false, eval e X.env) :: starEach [] X.env := by rfl)
    (hs : ∀ y, foldedSetIterable (.Call (.Name "range" pr) [e] [] ps) X.env y = pure y := by intro _; rfl) :
    JE X p (.ListComp elt [⟨.Name x px, .Call (.Name "range" pr) [e] [] ps, [], 0⟩] sc pos) σ H (fun d : PyData => ∃ n ds, P n ∧ ds.length = n.toNat ∧ (∀ d ∈ ds, A d) ∧ d = .list ds) := fun H1 g1 Q q =>
  of_pe (pe_lc (own := [(x, i)]) (g := gName i) (tt := tYes) (te := SemEB X sc elt) hc nd (pi_range1 hg hm (pa_cons semE pa_nil hse1) hse) ok
      (fun s J C cl fp => pg_name nd hi (show L2.Loc (compEnvC sc cl C X.env).scope x from .inl (lookup_relabel_local hx)) (.inr (show (compEnvC sc cl C X.env).scope.names.lookup x = some .local from lookup_relabel_local hx)))
      (fun s J C cl fp => pts_nil) (fun s J C cl fp => ⟨fun pins st _ _ _ I h => (h s J C cl fp).run pins st I⟩) hs)
    (h H1 g1 _ fun v H2 n g2 pn r => by
      cases rep_int r
      obtain ⟨n0, n1⟩ := hz n pn
      refine ⟨n, rfl, by omega, by omega, fun Dn hD => ?_⟩
      have nD := g2.dk.ne hD
      have nDd : p.d ≠ some Dn := fun z => nD (.inl z)
      have fH : H Dn = none := (g1.trans g2).free hD
      refine lc_range (lo := 0) (n := n.toNat) (fun k J => ∃ acc ds, J Dn = some (.lst acc) ∧ Reps X.K (del (p.add Dn) J) acc ds ∧ ds.length = k ∧ (∀ d ∈ ds, A d) ∧ Go p H2 J) ⟨[], [], upd_same, .nil, rfl, (fun _ m => (nomatch m)), .new g2.dk hD⟩
        (fun k J hk ⟨acc, ds, e1, e2, e3, e4, e5⟩ => ?_) fun J ⟨acc, ds, e1, e2, e3, e4, e5⟩ => ?_
      · have gs : Gq p Dn H J := ⟨fH, (g1.trans g2).trans e5, by rw [e1]; exact Option.some_ne_none _⟩
        show wipe ((wipe σ [i]).set i (some (.int ((0 : Int) + (k : Int))))) [i] = wipe σ [i] ∧ _
        rw [Int.zero_add]
        have es : (wipe σ [i]).set i (some (.int (k : Int))) = σ.set i (some (.int (k : Int))) := by
          show ((wipe σ []).set i none).set i (some (V.int (k : Int))) = σ.set i (some (.int (k : Int)))
          exact List.set_set ..
        refine ⟨by rw [es]; exact wipe1, ?_⟩
        unfold tYes
        dsimp only
        rw [if_pos rfl]
        show SemEB X sc elt ((wipe σ [i]).set i (some (.int (k : Int)))) J _
        rw [es]
        refine fun s J' C cl fp => he k J Dn gs s J' C cl fp J (.refl gs.dk) _ fun y J2 d ge ad ry => ?_
        have eD : J2 Dn = some (.lst acc) := ge.ex Dn _ nDd e1
        have z : acc.length < sizeLine := by
          have h1 := e2.len
          have h2 : (100000 : Nat) < sizeLine := by rw [sizeLine_eq]; decide
          omega
        refine ⟨acc, eD, z, acc ++ [y], ds ++ [d], upd_same, Reps.mono del_put ((e2.go ge).app (.cons ry .nil)), by rw [List.length_append, e3]; rfl, fun d' m => ?_, Go.put g2.dk (e5.trans ge.sub) hD⟩
        rcases List.mem_append.mp m with m | m
        · exact e4 d' m
        · rw [List.mem_singleton.mp m]
          exact ad
      · exact q _ J _ (g2.trans e5) ⟨n, ds, pn, e3, e4, rfl⟩ (.lst (by rw [del_at nD]; exact e1) e2.sub))
end
end Lp
set_option Elab.async false
set_option linter.all false
set_option maxRecDepth 100000
set_option maxHeartbeats 4000000
set_option exponentiation.threshold 9000
namespace Lp
open PySem PySem.Spec L2
/-! ### numbers as texts -/
def digs (n : Int) : List Nat := (Nat.toDigits 10 n.natAbs).map Char.toNat
def sgn (n : Int) : List Nat := if n < 0 then [45] else []
theorem cps_num (n : Int) : (toString n : Str).cps.toList = sgn n ++ digs n := by
  cases n with
  | ofNat m =>
    have h : ¬ (Int.ofNat m < 0) := by simp
    show (Str.ofString (toString ((m : Nat) : Int))).cps.toList = _
    rw [PySem.W.KIN.signs_num]
    unfold sgn digs
    rw [if_neg h]
    rfl
  | negSucc m =>
    have h : Int.negSucc m < 0 := Int.negSucc_lt_zero m
    show (Str.ofString (toString (Int.negSucc m))).cps.toList = _
    rw [PyProof.Rows.signs_ofString]
    show (("-" ++ (m + 1).repr : String)).toList.map Char.toNat = _
    rw [String.toList_append, List.map_append, Nat.toList_repr]
    unfold sgn digs
    rw [if_pos h]
    rfl
theorem digs_range {n : Int} {c : Nat} (h : c ∈ digs n) : 48 ≤ c ∧ c ≤ 57 := by
  obtain ⟨ch, hc, e⟩ := List.mem_map.mp h
  have r := Nat.isDigit_of_mem_toDigits (by decide) (by decide) hc
  rw [← e]
  unfold Char.isDigit at r
  rw [Bool.and_eq_true, decide_eq_true_eq, decide_eq_true_eq] at r
  have h1 : (48 : UInt32).toNat ≤ ch.val.toNat := UInt32.le_iff_toNat_le.mp r.1
  have h2 : ch.val.toNat ≤ (57 : UInt32).toNat := UInt32.le_iff_toNat_le.mp r.2
  exact ⟨h1, h2⟩
theorem digs_len (n : Int) : (digs n).length = (Nat.toDigits 10 n.natAbs).length := List.length_map ..
theorem digs_le {n : Int} {k : Nat} (hk : 0 < k) : (digs n).length ≤ k ↔ n.natAbs < 10 ^ k := by
  rw [digs_len]
  exact Nat.length_toDigits_le_iff (by decide) hk
theorem digs_ne (n : Int) : digs n ≠ [] := fun e => by
  have h : (Nat.toDigits 10 n.natAbs) = [] := List.map_eq_nil_iff.mp e
  have l1 : (Nat.toDigits 10 n.natAbs).length ≤ 1 := by rw [h]; exact Nat.zero_le _
  have l2 : n.natAbs < 10 := by
    have := (Nat.length_toDigits_le_iff (b := 10) (n := n.natAbs) (k := 1) (by decide) (by decide)).mp l1
    omega
  rw [Nat.toDigits_of_lt_base l2] at h
  cases h
theorem tw_none {α : Type} {f : α → Bool} : ∀ {l : List α}, (∀ a ∈ l, f a = false) → l.takeWhile f = []
  | [], _ => rfl
  | a :: r, h => by rw [List.takeWhile_cons, h a List.mem_cons_self]; rfl
theorem tw_app {α : Type} {f : α → Bool} : ∀ {l r : List α}, (∀ a ∈ l, f a = true) → (∀ a ∈ r, f a = false) → (l ++ r).takeWhile f = l
  | [], r, _, h => tw_none h
  | a :: l, r, h1, h2 => by
    rw [List.cons_append, List.takeWhile_cons, h1 a List.mem_cons_self]
    show a :: (l ++ r).takeWhile f = a :: l
    rw [tw_app (fun b m => h1 b (List.mem_cons_of_mem _ m)) h2]
theorem cps_len (x : Str) : x.length = x.cps.toList.length := by
  show x.cps.size = _
  exact (Array.length_toList).symm
theorem strip_len {goes : Nat → Bool} {x : Str} {a b : List Nat} (h : x.cps.toList = a ++ b) (h1 : ∀ c ∈ a, goes c = true) (h2 : ∀ c ∈ b, goes c = false) : (Txt.stripBy goes true true x).length = b.length := by
  have lx : x.length = a.length + b.length := by rw [cps_len, h, List.length_append]
  have lo : stripLo goes true x = a.length := by
    unfold stripLo
    rw [if_pos rfl, h, tw_app h1 h2]
  have hi : stripHi goes true x a.length = x.length := by
    unfold stripHi
    rw [if_pos rfl, h, List.drop_left, tw_none fun c m => h2 c (List.mem_reverse.mp m)]
    rfl
  unfold Txt.stripBy
  split
  · rename_i e
    unfold stripSame at e
    rw [lo, Bool.and_eq_true, beq_iff_eq] at e
    have := e.1
    omega
  · unfold stripped
    rw [lo, hi]
    show (x.cps.extract a.length x.length).size = _
    rw [Array.size_extract]
    have : x.cps.size = x.length := rfl
    omega
theorem strip_num (n : Int) : (Txt.stripChars (toString n : Str) ("-" : Str)).length = (digs n).length := by
  unfold Txt.stripChars
  have e45 : ∀ c : Nat, ("-" : Str).cps.contains c = (c == 45) := fun c => by
    show (#[45] : Array Nat).contains c = _
    simp [Array.contains]
  refine strip_len (cps_num n) (fun c h => ?_) (fun c h => ?_)
  · unfold sgn at h
    split at h
    · rw [e45, List.mem_singleton.mp h]
      rfl
    · cases h
  · have := digs_range h
    rw [e45]
    exact beq_false_of_ne (by omega)
theorem num_len (n : Int) : (toString n : Str).length ≤ (digs n).length + 1 := by
  rw [cps_len, cps_num, List.length_append]
  have : (sgn n).length ≤ 1 := by
    unfold sgn
    split
    · exact Nat.le_refl _
    · exact Nat.zero_le _
  omega
theorem num_first (n : Int) : ∃ c, atI (toString n : Str).cps.toList 0 = some c ∧ (c = 45 ↔ n < 0) := by
  rw [cps_num]
  by_cases h : n < 0
  · refine ⟨45, ?_, fun _ => h, fun _ => rfl⟩
    have : sgn n = [45] := if_pos h
    rw [this]
    exact atI_nat (j := 0) rfl
  · have : sgn n = [] := if_neg h
    rw [this]
    cases e : digs n with
    | nil => exact absurd e (digs_ne n)
    | cons c r =>
      refine ⟨c, atI_nat (j := 0) rfl, fun z => ?_, fun z => absurd z h⟩
      have := digs_range (n := n) (c := c) (by rw [e]; exact List.mem_cons_self)
      omega
theorem log_lt {n : Int} {k : Nat} (h : n.natAbs < 10 ^ k) (hk : k ≤ 400) : n.natAbs.log2 < 1920 := by
  have h1 : (10 : Nat) ^ k ≤ 10 ^ 400 := Nat.pow_le_pow_right (by decide) hk
  have h2 : (10 : Nat) ^ 400 < 2 ^ 1900 := by decide +kernel
  refine Nat.lt_of_lt_of_le (PySem.Flt.log2_lt_of (k := 1900) (by decide) (by omega)) (by decide)
end Lp
set_option Elab.async false
set_option linter.all false
set_option maxRecDepth 100000
set_option maxHeartbeats 4000000
set_option exponentiation.threshold 9000
namespace K00
open PySem PySem.Spec L2 Lp
def topS (i : Nat) : Stmt := PySem.Challenge.pw_lastprices_k00_whole_words_of_few_signs.main.body.getD i (.Pass ⟨0, 0, 0, 0⟩)
abbrev sDice : Stmt := topS 9
abbrev sRoll : Stmt := topS 10
abbrev sPick : Stmt := topS 11
theorem scDice : FnScope ["_law_script", "_law_spot", "_law_cell", "_law_great", "_law_left"] ["_law_script", "_law_spot"] (defScope sDice) := ⟨rfl, rfl, rfl, by decide +kernel, rfl, by decide +kernel, by decide +kernel⟩
theorem scRoll : FnScope ["_law_dice_here", "_law_total", "_law_found", "_law_one", "_law_two"] ["_law_dice_here", "_law_total"] (defScope sRoll) := ⟨rfl, rfl, rfl, by decide +kernel, rfl, by decide +kernel, by decide +kernel⟩
theorem scPick : FnScope ["_law_dice_here", "_law_items"] ["_law_dice_here", "_law_items"] (defScope sPick) := ⟨rfl, rfl, rfl, by decide +kernel, rfl, by decide +kernel, by decide +kernel⟩
/-! ### the dice -/
def spDice (K : PySem.W.Frag) : Sp := fun vs J Q _ => ∃ (a : Addr) (ns : List Int) (k : Nat), vs = [.ref a, .int (k : Int)] ∧ SqL K J a (ns.map V.int) ∧
  ∀ q J2 (l s c : Int), J q = none → (∀ b o, J b = some o → J2 b = some o) → J2 q = some (.lst [.int l, .int s, .int c]) → Q (.ref q) J2
structure TD (mg : Str → Option Value) : Prop where
  len : mg "len" = none
  int : mg "int" = none
  abs : mg "abs" = none
  max : mg "max" = none
  min : mg "min" = none
  range : mg "range" = none
section
variable {P : Program} {w : World} {K : PySem.W.Frag} {mg : Str → Option Value} {base : Heap}
theorem pos59 : (0 : Int) < 10 ^ (59 : Int).toNat := by decide
theorem ok_dice {f : Addr} {fd : FuncData} (F : Fun K "_law_dice" "_law_dice" sDice f fd) (T : TD mg) : FnG P w K mg base CX0 1 f fd ["_law_script", "_law_spot"] (spDice K) := by
  refine okN F scDice (fun vs H Q E h => ?_) (fun cdv B fr s J xs Q Z hr hg h => ⟨_, semSs, ?_⟩)
  · obtain ⟨a, ns, k, rfl, _⟩ := h
    rfl
  · obtain ⟨a, ns, k, rfl, hS, q⟩ := h
    have dk : DOk no J := dok_none
    have hQ : SqL K (del no J) a (ns.map V.int) := by
      rw [del_none]
      exact hS
    refine ss_cons (s_set (P := fun _ : Int => True) 2 dk (j_if (t_cmpI op_lt (v_var (a := (k : Int)) 1 rfl (.int k)) (v_lenQ (by rfl) T.len 0 rfl hQ)) (fun h => ?_) (fun h => ?_)) scDice.nd fun v J1 c g1 _ r1 => ?_)
    · refine j_int1 (by rfl) T.int (j_itemQ 0 rfl hQ (v_var (a := (k : Int)) 1 rfl (.int k)) fun i e => ?_)
      obtain ⟨i', j', e1, e2, e3⟩ := h
      have := of_decide_eq_true e3.symm
      rw [List.length_map] at e2
      subst e1 e2
      rw [e]
      exact ⟨Int.natCast_nonneg _, this⟩
    · exact (v_add (v_mul v_int (v_var (a := (k : Int)) 1 rfl (.int k)) (.inl (by decide))) v_int).imp fun _ _ => trivial
    have eV := rep_int r1
    subst eV
    refine ss_cons (s_set 3 g1.dk (v_mod (v_abs (by rfl) T.abs (v_var 2 rfl r1)) (v_pow v_int v_int ⟨by decide, by decide, by decide⟩) pos59) scDice.nd fun v J2 c2 g2 e2 r2 => ?_)
    have eV := rep_int r2
    subst eV e2
    refine ss_cons (s_set 4 g2.dk (v_max (by rfl) (by rfl) T.max v_int (v_sub (v_abs (by rfl) T.abs (v_var (a := c) 2 rfl (.int c))) (v_pow v_int v_int ⟨by decide, by decide, by decide⟩))) scDice.nd fun v J3 c3 g3 e3 r3 => ?_)
    have eV := rep_int r3
    subst eV e3
    refine ss_cons (s_retL g3.dk (a_cons (v_mod (v_var 4 rfl r3) (v_mulW (v_pow v_int v_int ⟨by decide, by decide, by decide⟩) (v_pow v_int v_int ⟨by decide, by decide, by decide⟩) (wide_mul (a := 200) (b := 200) (by decide) (by decide) (by decide) (by decide) (by decide))) (by decide))
      (a_cons (v_add (v_add (v_add (v_mul (v_mod (v_var 3 rfl (r2.go g3)) v_int (by decide)) v_int (.inr (by decide))) (v_mul v_int (v_var (a := (k : Int)) 1 rfl (.int k)) (.inl (by decide)))) (v_mul v_int (v_intB (by rfl) T.int (v_cmpI op_lt (v_var (a := c) 2 rfl (.int c)) v_int (nomark _))) (.inl (by decide)))) v_int)
      (a_1 v_int))) (fun ds hd => ?_) fun qq J4 vs ds g4 hd rr nq => ?_)
    · obtain ⟨x, r, _, ⟨x2, r2, _, ⟨x3, _, rfl⟩, rfl⟩, rfl⟩ := hd
      show 3 ≤ sizeLine
      decide
    · obtain ⟨x, r, _, ⟨x2, r2, _, ⟨x3, _, rfl⟩, rfl⟩, rfl⟩ := hd
      have g := ((g1.trans g2).trans g3).trans g4
      cases rr with
      | cons z1 rr =>
        cases rr with
        | cons z2 rr =>
          cases rr with
          | cons z3 rr =>
            cases rr
            cases rep_int z1
            cases rep_int z2
            cases rep_int z3
            have ex : ∀ b o, J b = some o → J4 b = some o := fun b o e => g.ex b o (fun z => nomatch z) e
            have fr : J qq = none := g.free nq
            exact q qq _ x x2 x3 fr (fun b o e => by rw [upd_ne (ne_of_none (ex b o e) nq)]; exact ex b o e) upd_same
/-- a roll: any number below the total -/
def preRoll (ds : List PyData) : Prop := ∃ t : Int, ds = [.int t] ∧ 0 < t ∧ t.natAbs < 2 ^ 8000
def resRoll (ds : List PyData) (r : Int) : Prop := ∃ t : Int, ds = [.int t] ∧ 0 ≤ r ∧ r < t
theorem ok_roll {f : Addr} {fd : FuncData} (F : Fun K "_law_roll" "_law_roll" sRoll f fd) (T : TD mg) : FnG P w K mg base CX0 1 f fd ["_law_dice_here", "_law_total"] (spD K preRoll resRoll) := by
  refine okD F scRoll (fun ds h => ?_) (fun cdv B fr s J0 Z hr hg a p J ws ds Q hp dk rs pr q => ?_)
  · obtain ⟨t, rfl, _⟩ := h
    rfl
  · obtain ⟨t, rfl, t0, tz⟩ := pr
    cases rs with
    | cons rt rs =>
      cases rs
      cases rt
      have rT : ∀ J1, Rep K (del p J1) (.int t) (enc t) := fun _ => .int t
      refine ss_cons (s_if dk (t_cmpI op_gt (j_cell 0 rfl hp (.inl rfl)) v_int) (fun H1 g1 _ => ?_) (fun H1 g1 _ => ?_))
      · refine ss_cons (s_set (P := fun r : Int => 0 ≤ r ∧ r < t) 2 g1.dk ((j_opI op_mod (j_int1 (by rfl) T.int (j_cell 0 rfl hp (.inl rfl))) (v_var (a := t) 1 rfl (rT _)) fun i j _ e => by rw [e]; exact t0).imp fun r e => ?_) scRoll.nd fun v H2 r g2 er r2 => ?_)
        · obtain ⟨i, j, _, rfl, rfl⟩ := e
          exact ⟨Int.emod_nonneg _ (by omega), Int.emod_lt_of_pos _ t0⟩
        cases rep_int r2
        refine ss_cons (s_cell (A := fun _ => True) 0 g2.dk rfl hp (.inl rfl) ((j_opI op_fdivW (j_cell 0 rfl hp (.inl rfl)) (v_var (a := t) 1 rfl (rT _)) fun i j _ e => by rw [e]; exact wide_div t0 tz (by decide) (by decide)).imp fun _ _ => trivial) fun H3 g3 => ?_)
        refine ss_cons (s_ret g3.dk (v_var (a := r) 2 rfl (.int r)) fun v H4 r' g4 er' r4 => ?_)
        subst er'
        exact q v H4 r' (((g1.trans g2).trans g3).trans g4) ⟨t, rfl, er⟩ r4
      · refine ss_nil ?_
        refine ss_cons (s_cell (A := fun _ => True) 0 g1.dk rfl hp (.inr (.inr rfl)) ((j_add (j_cell 0 rfl hp (.inr (.inr rfl))) v_int).imp fun _ _ => trivial) fun H2 g2 => ?_)
        refine ss_cons (s_set (P := fun r : Int => 0 ≤ r ∧ r < 2305843009213693907) 3 g2.dk ((j_opI op_mod (j_int1 (A := fun _ => True) (by rfl) T.int ((j_add (j_cell 0 rfl hp (.inr (.inl rfl))) (j_opI op_mul v_int (j_cell 0 rfl hp (.inr (.inr rfl))) fun i j e _ => .inl (by rw [e]; decide))).imp fun _ _ => trivial)) v_int fun i j _ e => by rw [e]; decide).imp fun r e => ?_) scRoll.nd fun v H3 one g3 e3 r3 => ?_)
        · obtain ⟨i, j, _, rfl, rfl⟩ := e
          exact ⟨Int.emod_nonneg _ (by decide), Int.emod_lt_of_pos _ (by decide)⟩
        cases rep_int r3
        have rO : ∀ J1, Rep K (del p J1) (.int one) (enc one) := fun _ => .int one
        refine ss_cons (s_set (P := fun r : Int => True) 4 g3.dk ((j_add (j_opI op_mul (j_opI op_mod (j_int1 (A := fun _ => True) (by rfl) T.int ((j_add (v_mul (v_var (a := one) 3 rfl (rO _)) (v_var (a := one) 3 rfl (rO _)) (.inl ⟨by omega, by omega⟩)) (j_opI op_mul v_int (j_cell 0 rfl hp (.inr (.inr rfl))) fun i j e _ => .inl (by rw [e]; decide))).imp fun _ _ => trivial)) v_int fun i j _ e => by rw [e]; decide) v_int fun i j _ e => .inr (by rw [e]; decide)) (v_var (a := one) 3 rfl (rO _))).imp fun _ _ => trivial) scRoll.nd fun v H4 two g4 _ r4 => ?_)
        cases rep_int r4
        refine ss_cons (s_ret (P := fun r : Int => 0 ≤ r ∧ r < t) g4.dk ((j_opI op_mod (j_int1 (by rfl) T.int (v_div (v_var (a := two) 4 rfl (.int two)) v_int (wide_div (b := 20) (by decide) (by decide) (by decide) (by decide)))) (v_var (a := t) 1 rfl (rT _)) fun i j _ e => by rw [e]; exact t0).imp fun r e => ?_) fun v H5 r g5 er r5 => ?_)
        · obtain ⟨i, j, _, rfl, rfl⟩ := e
          exact ⟨Int.emod_nonneg _ (by omega), Int.emod_lt_of_pos _ t0⟩
        exact q v H5 r ((((g1.trans g2).trans g3).trans g4).trans g5) ⟨t, rfl, er⟩ r5
/-- a pick: one of the items -/
def prePick (ds : List PyData) : Prop := ∃ es : List PyData, ds = [.list es] ∧ 0 < es.length ∧ es.length < 2 ^ 62
def resPick (ds : List PyData) (r : PyData) : Prop := ∃ es : List PyData, ds = [.list es] ∧ r ∈ es
theorem ok_pick {f fR : Addr} {fd fdR : FuncData} (F : Fun K "_law_pick" "_law_pick" sPick f fd) (T : TD mg) (FR : Fun K "_law_roll" "_law_roll" sRoll fR fdR) (bR : Binds K fdR ["_law_dice_here", "_law_total"] []) (gR : mg "_law_roll" = some (.ref fR)) :
    FnG P w K mg base CX0 2 f fd ["_law_dice_here", "_law_items"] (spD K prePick resPick) := by
  have GR : FnG P w K mg base CX0 1 fR fdR ["_law_dice_here", "_law_total"] (spD K preRoll resRoll) := ok_roll FR T
  refine okD F scPick (fun ds h => ?_) (fun cdv B fr s J0 Z hr hg a p J ws ds Q hp dk rs pr q => ?_)
  · obtain ⟨t, rfl, _⟩ := h
    rfl
  · obtain ⟨es, rfl, n0, n1⟩ := pr
    cases rs with
    | cons rt rs =>
      cases rs
      refine ss_cons (s_ret dk (j_item (v_var 1 rfl rt) (j_fd GR hr hg gR FR.kp bR 0 rfl hp (a_1 (v_lenL (by rfl) T.len (v_var 1 rfl rt))) fun ds h => ?_) fun i h => ?_) fun v H1 d g1 hd r1 => q v H1 d g1 ⟨es, rfl, hd⟩ r1)
      · obtain ⟨x, rfl, rfl⟩ := h
        refine ⟨_, rfl, by omega, ?_⟩
        have : (2 : Nat) ^ 62 ≤ 2 ^ 8000 := Nat.pow_le_pow_right (by decide) (by decide)
        omega
      · obtain ⟨ds, ⟨x, rfl, rfl⟩, t, e, h0, h1⟩ := h
        cases e
        exact ⟨h0, h1⟩
def prePickS (ds : List PyData) : Prop := ∃ z : Str, ds = [.str z] ∧ 0 < z.length ∧ z.length ≤ 100000
def resPickS (ds : List PyData) (r : PyData) : Prop := ∃ z : Str, ds = [.str z] ∧ ∃ c, c ∈ z.cps.toList ∧ r = .str ⟨#[c]⟩
theorem ok_pickS {f fR : Addr} {fd fdR : FuncData} (F : Fun K "_law_pick" "_law_pick" sPick f fd) (T : TD mg) (FR : Fun K "_law_roll" "_law_roll" sRoll fR fdR) (bR : Binds K fdR ["_law_dice_here", "_law_total"] []) (gR : mg "_law_roll" = some (.ref fR)) :
    FnG P w K mg base CX0 2 f fd ["_law_dice_here", "_law_items"] (spD K prePickS resPickS) := by
  have GR : FnG P w K mg base CX0 1 fR fdR ["_law_dice_here", "_law_total"] (spD K preRoll resRoll) := ok_roll FR T
  refine okD F scPick (fun ds h => ?_) (fun cdv B fr s J0 Z hr hg a p J ws ds Q hp dk rs pr q => ?_)
  · obtain ⟨t, rfl, _⟩ := h
    rfl
  · obtain ⟨z, rfl, n0, n1⟩ := pr
    cases rs with
    | cons rt rs =>
      cases rs
      refine ss_cons (s_ret dk (j_sign (v_var (a := z) 1 rfl rt) (j_fd GR hr hg gR FR.kp bR 0 rfl hp (a_1 (v_lenS (by rfl) T.len (v_var (a := z) 1 rfl rt) (Evl.sz_of n1))) fun ds h => ?_) n1 fun i h => ?_) fun v H1 d g1 hd r1 => q v H1 d g1 ⟨z, rfl, hd⟩ r1)
      · obtain ⟨x, rfl, rfl⟩ := h
        refine ⟨_, rfl, by omega, ?_⟩
        have h1 : (100000 : Nat) < 2 ^ 62 := by decide
        have : (2 : Nat) ^ 62 ≤ 2 ^ 8000 := Nat.pow_le_pow_right (by decide) (by decide)
        omega
      · obtain ⟨ds, ⟨x, rfl, rfl⟩, t, e, h0, h1⟩ := h
        cases e
        exact ⟨h0, h1⟩
end
/-- x = _law_dice(script, spot): from here on the dice are known -/
theorem s_dice {X : Cx} {k2 : Nat} {fD : Addr} {fdD : FuncData} {y x0 x1 : Str} {pd p0 p1 q1 py pos : Pos} {σ : L2.St} {H : Hp} {D : Ends} (j i0 i1 : Nat) (nd : X.N.Nodup)
    (FD : FnG X.prog X.w X.K X.mg X.base CX0 k2 fD fdD ["_law_script", "_law_spot"] (spDice X.K)) (hr2 : Room k2 X.A) (hgd : X.A.guards = some []) (hmD : X.mg "_law_dice" = some (.ref fD)) (hkD : PySem.W.keepIn X.K (.ref fD) = true) (hbD : Binds X.K fdD ["_law_script", "_law_spot"] [])
    {a : Addr} {ns : List Int} {k : Nat} (h0 : σ[i0]? = some (some (.ref a))) (h1 : σ[i1]? = some (some (.int (k : Int)))) (hq : SqL X.K H a (ns.map V.int))
    (q : ∀ u J2 (l s c : Int), H u = none → (∀ b o, H b = some o → J2 b = some o) → J2 u = some (.lst [.int l, .int s, .int c]) → D.nx (σ.set j (some (.ref u))) J2)
    (hN0 : X.N[i0]? = some x0 := by rfl) (hv0 : Vis X.env.scope x0 := by exact Or.inl rfl) (hN1 : X.N[i1]? = some x1 := by rfl) (hv1 : Vis X.env.scope x1 := by exact Or.inl rfl) (hd0 : (x0 == ("__debug__" : Str)) = false := by decide) (hc0 : (x0 == ("__classdict__" : Str)) = false := by decide)
    (hd1 : (x1 == ("__debug__" : Str)) = false := by decide) (hc1 : (x1 == ("__classdict__" : Str)) = false := by decide) (hgD : Gl X "_law_dice" := by rfl) (hi : X.N[j]? = some y := by rfl) (hx : Loc X.env.scope y := by exact Or.inl rfl)
    (hs : swapsWith (.Call (.Name "_law_dice" pd) [.Name x0 p0, .Name x1 p1] [] q1) (some (.Name y py)) pos.line X.env = pure false := by rfl) (hf : X.fn y = true ∨ X.env.scope.names.lookup y = some .local := by first | exact .inl rfl | exact .inr rfl)
    (e3 : starEach [.Name x0 p0, .Name x1 p1] X.env = (false, eval (.Name x0 p0) X.env) :: starEach [.Name x1 p1] X.env := by rfl) (e4 : starEach [.Name x1 p1] X.env = (false, eval (.Name x1 p1) X.env) :: starEach [] X.env := by rfl) (e5 : (backTo q1 (starEach [.Name x1 p1] X.env)).any (·.1) = false := by rfl) :
    SemS X (.Assign [.Name y py] (.Call (.Name "_law_dice" pd) [.Name x0 p0, .Name x1 p1] [] q1) pos) D σ H :=
  of_ps (ps_set (i := j) nd hi hx (callG FD hr2 hgd hgD hmD hkD hbD pass0 (pa_cons (pv i0 hN0 hv0 hd0 hc0) (pa_cons (pv i1 hN1 hv1 hd1 hc1) pa_nil e4) e3) (by decide) e3 e5) hs hf)
    ⟨_, h0, _, h1, a, ns, k, rfl, hq, fun u J2 l s c nu ex eu => q u J2 l s c nu ex eu⟩
end K00
set_option Elab.async false
set_option linter.all false
set_option maxRecDepth 100000
set_option maxHeartbeats 1000000
set_option exponentiation.threshold 9000
namespace K00
open PySem PySem.Spec L2 Lp
abbrev sName : Stmt := topS 4
abbrev sLetter : Stmt := topS 5
abbrev sText : Stmt := topS 6
abbrev sOf : Stmt := topS 7
abbrev sTold : Stmt := topS 15
abbrev sDue : Stmt := topS 16
theorem scName : FnScope ["value"] ["value"] (defScope sName) := ⟨rfl, rfl, rfl, by decide +kernel, rfl, by decide +kernel, by decide +kernel⟩
theorem scLetter : FnScope ["value"] ["value"] (defScope sLetter) := ⟨rfl, rfl, rfl, by decide +kernel, rfl, by decide +kernel, by decide +kernel⟩
theorem scText : FnScope ["value"] ["value"] (defScope sText) := ⟨rfl, rfl, rfl, by decide +kernel, rfl, by decide +kernel, by decide +kernel⟩
theorem scOf : FnScope ["value"] ["value"] (defScope sOf) := ⟨rfl, rfl, rfl, by decide +kernel, rfl, by decide +kernel, by decide +kernel⟩
theorem scTold : FnScope ["_law_text"] ["_law_text"] (defScope sTold) := ⟨rfl, rfl, rfl, by decide +kernel, rfl, by decide +kernel, by decide +kernel⟩
theorem scDue : FnScope ["_law_text", "_law_rest", "_law_is_clean"] ["_law_text"] (defScope sDue) := ⟨rfl, rfl, rfl, by decide +kernel, rfl, by decide +kernel, by decide +kernel⟩
abbrev letS : Str := "abcdefghijklmnopqrstuvwxyz"
structure TC (mg : Str → Option Value) : Prop extends TD mg where
  isi : mg "isinstance" = none
  str : mg "str" = none
  repr : mg "repr" = none
  sorted : mg "sorted" = none
  set : mg "set" = none
  ml : ∃ t, mg "MAX_LETTERS" = some (.int 8 t)
  mt : ∃ t, mg "MAX_TEXT" = some (.int 100000 t)
  le : ∃ t, mg "LETTERS" = some (.str letS t)
def clean (x : Str) : Bool := decide (Txt.stripChars x letS = Str.empty)
def isOf : PyData → Bool
  | .str x => clean x
  | _ => false
def isNm : PyData → Bool
  | .str x => clean x && (decide ((1 : Int) ≤ x.length) && decide ((x.length : Int) ≤ 8))
  | _ => false
def isLt : PyData → Bool
  | .str x => clean x && decide ((x.length : Int) = 1)
  | _ => false
def isTx : PyData → Bool
  | .str x => clean x && decide ((x.length : Int) ≤ 100000)
  | _ => false
def preV (ds : List PyData) : Prop := ∃ d, ds = [d] ∧ ∀ x, d = .str x → x.length ≤ 200000
def eStr : PyData → Bool
  | .str _ => true
  | _ => false
theorem k_str : ["NoneType", "bool", "int", "str", "list", "tuple", "dict"].map (fun t => kitB t "str") = [some false, some false, some false, some true, some false, some false, some false] := by decide +kernel
theorem kStr (d : PyData) : kitB (tyN d) "str" = some (eStr d) := by
  have h := k_str
  simp only [List.map_cons, List.map_nil, List.cons.injEq] at h
  obtain ⟨h1, h2, h3, h4, h5, h6, h7, _⟩ := h
  cases d <;> assumption
theorem z2 {n : Nat} (h : n ≤ 200000) : n ≤ sizeLine := Nat.le_trans h (by decide)
section
variable {P : Program} {w : World} {K : PySem.W.Frag} {mg : Str → Option Value} {base : Heap}
theorem ok_of {f : Addr} {fd : FuncData} (F : Fun K "_is_of_letters" "_is_of_letters" sOf f fd) (T : TC mg) : FnG P w K mg base CX0 1 f fd ["value"] (spF K preV (fun ds (r : Bool) => ∃ d, ds = [d] ∧ r = isOf d)) := by
  refine okF F scOf (fun ds h => ?_) (fun cdv B fr s J0 Z hr hg p J vs ds Q dk rs pr q => ?_)
  · obtain ⟨d, rfl, _⟩ := h
    rfl
  · obtain ⟨d, rfl, hz⟩ := pr
    obtain ⟨t, le⟩ := T.le
    cases rs with
    | cons rt rs =>
      cases rs
      refine ss_cons (s_ret dk (v_and (x := eStr d) (y := isOf d) (v_isi (by rfl) T.isi (by rfl) T.str (by decide +kernel) (v_var 0 rfl rt) (kStr d)) fun h => v_one ?_) fun v H2 r g2 er r2 => q v H2 r g2 ⟨d, rfl, ?_⟩ r2)
      · cases d with
        | str x => exact v_cmp op_eq (v_strip (v_var (a := x) 0 rfl rt) (v_glob (a := letS) (by rfl) le (show RelV (.str letS) _ from ⟨t, rfl⟩) fun _ => .str _) (z2 (hz x rfl))) v_str od_eqS
        | none => cases h
        | bool b => cases h
        | int x => cases h
        | list x => cases h
        | tuple x => cases h
        | dict x => cases h
      · rw [er]
        cases d <;> rfl
theorem ok_name {f fO : Addr} {fd fdO : FuncData} (F : Fun K "is_name" "is_name" sName f fd) (T : TC mg) (FO : Fun K "_is_of_letters" "_is_of_letters" sOf fO fdO) (bO : Binds K fdO ["value"] []) (gO : mg "_is_of_letters" = some (.ref fO)) :
    FnG P w K mg base CX0 2 f fd ["value"] (spF K preV (fun ds (r : Bool) => ∃ d, ds = [d] ∧ r = isNm d)) := by
  have GO : FnG P w K mg base CX0 1 fO fdO ["value"] _ := ok_of FO T
  refine okF F scName (fun ds h => ?_) (fun cdv B fr s J0 Z hr hg p J vs ds Q dk rs pr q => ?_)
  · obtain ⟨d, rfl, _⟩ := h
    rfl
  · obtain ⟨d, rfl, hz⟩ := pr
    obtain ⟨t, ml⟩ := T.ml
    cases rs with
    | cons rt rs =>
      cases rs
      refine ss_cons (s_ret dk (v_and (x := isOf d) (y := isNm d) (v_fn1 GO hr hg gO FO.kp bO (v_var (a := d) 0 rfl rt) ⟨d, rfl, hz⟩ fun r ⟨d', e, er⟩ => by cases e; exact er) fun h => v_one ?_) fun v H2 r g2 er r2 => q v H2 r g2 ⟨d, rfl, ?_⟩ r2)
      · cases d with
        | str x =>
          have h' : clean x = true := h
          refine (v_chain v_int (v_lenS (by rfl) T.len (v_var (a := x) 0 rfl rt) (z2 (hz x rfl))) (v_glob (a := (8 : Int)) (by rfl) ml (show RelV (.int 8) _ from ⟨t, rfl⟩) fun _ => .int _)).to ?_
          show _ = (clean x && _)
          rw [h']
          rfl
        | none => cases h
        | bool b => cases h
        | int x => cases h
        | list x => cases h
        | tuple x => cases h
        | dict x => cases h
      · rw [er]
        cases d with
        | str x =>
          show (clean x && (clean x && _)) = (clean x && _)
          cases clean x <;> rfl
        | none => rfl
        | bool b => rfl
        | int x => rfl
        | list x => rfl
        | tuple x => rfl
        | dict x => rfl
theorem ok_letter {f fO : Addr} {fd fdO : FuncData} (F : Fun K "is_letter" "is_letter" sLetter f fd) (T : TC mg) (FO : Fun K "_is_of_letters" "_is_of_letters" sOf fO fdO) (bO : Binds K fdO ["value"] []) (gO : mg "_is_of_letters" = some (.ref fO)) :
    FnG P w K mg base CX0 2 f fd ["value"] (spF K preV (fun ds (r : Bool) => ∃ d, ds = [d] ∧ r = isLt d)) := by
  have GO : FnG P w K mg base CX0 1 fO fdO ["value"] _ := ok_of FO T
  refine okF F scLetter (fun ds h => ?_) (fun cdv B fr s J0 Z hr hg p J vs ds Q dk rs pr q => ?_)
  · obtain ⟨d, rfl, _⟩ := h
    rfl
  · obtain ⟨d, rfl, hz⟩ := pr
    cases rs with
    | cons rt rs =>
      cases rs
      refine ss_cons (s_ret dk (v_and (x := isOf d) (y := isLt d) (v_fn1 GO hr hg gO FO.kp bO (v_var (a := d) 0 rfl rt) ⟨d, rfl, hz⟩ fun r ⟨d', e, er⟩ => by cases e; exact er) fun h => v_one ?_) fun v H2 r g2 er r2 => q v H2 r g2 ⟨d, rfl, ?_⟩ r2)
      · cases d with
        | str x =>
          have h' : clean x = true := h
          refine (v_cmp op_eq (v_lenS (by rfl) T.len (v_var (a := x) 0 rfl rt) (z2 (hz x rfl))) v_int od_eqI).to ?_
          show _ = (clean x && _)
          rw [h']
          rfl
        | none => cases h
        | bool b => cases h
        | int x => cases h
        | list x => cases h
        | tuple x => cases h
        | dict x => cases h
      · rw [er]
        cases d with
        | str x =>
          show (clean x && (clean x && _)) = (clean x && _)
          cases clean x <;> rfl
        | none => rfl
        | bool b => rfl
        | int x => rfl
        | list x => rfl
        | tuple x => rfl
        | dict x => rfl
theorem ok_text {f fO : Addr} {fd fdO : FuncData} (F : Fun K "is_text" "is_text" sText f fd) (T : TC mg) (FO : Fun K "_is_of_letters" "_is_of_letters" sOf fO fdO) (bO : Binds K fdO ["value"] []) (gO : mg "_is_of_letters" = some (.ref fO)) :
    FnG P w K mg base CX0 2 f fd ["value"] (spF K preV (fun ds (r : Bool) => ∃ d, ds = [d] ∧ r = isTx d)) := by
  have GO : FnG P w K mg base CX0 1 fO fdO ["value"] _ := ok_of FO T
  refine okF F scText (fun ds h => ?_) (fun cdv B fr s J0 Z hr hg p J vs ds Q dk rs pr q => ?_)
  · obtain ⟨d, rfl, _⟩ := h
    rfl
  · obtain ⟨d, rfl, hz⟩ := pr
    obtain ⟨t, mt⟩ := T.mt
    cases rs with
    | cons rt rs =>
      cases rs
      refine ss_cons (s_ret dk (v_and (x := isOf d) (y := isTx d) (v_fn1 GO hr hg gO FO.kp bO (v_var (a := d) 0 rfl rt) ⟨d, rfl, hz⟩ fun r ⟨d', e, er⟩ => by cases e; exact er) fun h => v_one ?_) fun v H2 r g2 er r2 => q v H2 r g2 ⟨d, rfl, ?_⟩ r2)
      · cases d with
        | str x =>
          have h' : clean x = true := h
          refine (v_cmpI op_le (v_lenS (by rfl) T.len (v_var (a := x) 0 rfl rt) (z2 (hz x rfl))) (v_glob (a := (100000 : Int)) (by rfl) mt (show RelV (.int 100000) _ from ⟨t, rfl⟩) fun _ => .int _) (nomark _)).to ?_
          show _ = (clean x && _)
          rw [h']
          rfl
        | none => cases h
        | bool b => cases h
        | int x => cases h
        | list x => cases h
        | tuple x => cases h
        | dict x => cases h
      · rw [er]
        cases d with
        | str x =>
          show (clean x && (clean x && _)) = (clean x && _)
          cases clean x <;> rfl
        | none => rfl
        | bool b => rfl
        | int x => rfl
        | list x => rfl
        | tuple x => rfl
        | dict x => rfl
def told (d : PyData) : PyData := .list [.bool (isNm d), .bool (isLt d), .bool (isTx d)]
theorem ok_told {f fN fL fT fO : Addr} {fd fdN fdL fdT fdO : FuncData} (F : Fun K "_law_told" "_law_told" sTold f fd) (T : TC mg) (FO : Fun K "_is_of_letters" "_is_of_letters" sOf fO fdO) (bO : Binds K fdO ["value"] []) (gO : mg "_is_of_letters" = some (.ref fO))
    (FN : Fun K "is_name" "is_name" sName fN fdN) (bN : Binds K fdN ["value"] []) (gN : mg "is_name" = some (.ref fN)) (FL : Fun K "is_letter" "is_letter" sLetter fL fdL) (bL : Binds K fdL ["value"] []) (gL : mg "is_letter" = some (.ref fL))
    (FT : Fun K "is_text" "is_text" sText fT fdT) (bT : Binds K fdT ["value"] []) (gT : mg "is_text" = some (.ref fT)) : FnG P w K mg base CX0 3 f fd ["_law_text"] (spF K preV (fun ds (r : PyData) => ∃ d, ds = [d] ∧ r = told d)) := by
  have GN : FnG P w K mg base CX0 2 fN fdN ["value"] _ := ok_name FN T FO bO gO
  have GL : FnG P w K mg base CX0 2 fL fdL ["value"] _ := ok_letter FL T FO bO gO
  have GT : FnG P w K mg base CX0 2 fT fdT ["value"] _ := ok_text FT T FO bO gO
  refine okF F scTold (fun ds h => ?_) (fun cdv B fr s J0 Z hr hg p J vs ds Q dk rs pr q => ?_)
  · obtain ⟨d, rfl, _⟩ := h
    rfl
  · obtain ⟨d, rfl, hz⟩ := pr
    cases rs with
    | cons rt rs =>
      cases rs
      refine ss_cons (s_ret dk (v_list (r := [.bool (isNm d), .bool (isLt d), .bool (isTx d)]) (a_consV (x := isNm d) (v_fn1 GN hr hg gN FN.kp bN (v_var (a := d) 0 rfl rt) ⟨d, rfl, hz⟩ fun r ⟨d', e, er⟩ => by cases e; exact er)
        (a_consV (x := isLt d) (v_fn1 GL hr hg gL FL.kp bL (v_var (a := d) 0 rfl rt) ⟨d, rfl, hz⟩ fun r ⟨d', e, er⟩ => by cases e; exact er) (a_consV (x := isTx d) (v_fn1 GT hr hg gT FT.kp bT (v_var (a := d) 0 rfl rt) ⟨d, rfl, hz⟩ fun r ⟨d', e, er⟩ => by cases e; exact er) a_nil))) (by show 3 ≤ sizeLine; decide))
        fun v H2 r g2 er r2 => q v H2 r g2 ⟨d, rfl, er⟩ r2)
theorem ok_due {f : Addr} {fd : FuncData} (F : Fun K "_law_due" "_law_due" sDue f fd) (T : TC mg) : FnG P w K mg base CX0 1 f fd ["_law_text"] (spF K (fun ds => ∃ x : Str, ds = [.str x] ∧ x.length ≤ 200000) (fun ds (r : PyData) => ∃ d, ds = [d] ∧ r = told d)) := by
  refine okF F scDue (fun ds h => ?_) (fun cdv B fr s J0 Z hr hg p J vs ds Q dk rs pr q => ?_)
  · obtain ⟨d, rfl, _⟩ := h
    rfl
  · obtain ⟨x, rfl, hz⟩ := pr
    cases rs with
    | cons rt rs =>
      cases rs
      cases rt
      have rx : ∀ J1, Rep K (del p J1) (.str x) (enc x) := fun _ => .str x
      refine ss_cons (s_set 1 dk (v_strip (v_var (a := x) 0 rfl (rx _)) v_str (z2 hz)) scDue.nd fun v1 H1 y g1 ey r1 => ?_)
      subst ey
      cases rep_str r1
      refine ss_cons (s_set 2 g1.dk (v_cmp op_eq (v_var (a := Txt.stripChars x letS) 1 rfl (.str _)) v_str od_eqS) scDue.nd fun v2 H2 b g2 eb r2 => ?_)
      subst eb
      cases rep_bool r2
      have rb : ∀ J1, Rep K (del p J1) (.bl (clean x)) (enc (clean x)) := fun _ => .bl _
      refine ss_cons (s_ret g2.dk (v_list (r := [.bool (isNm (.str x)), .bool (isLt (.str x)), .bool (isTx (.str x))]) (a_consV (x := isNm (.str x)) ((v_and (v_var (a := clean x) 2 rfl (rb _)) fun _ => v_one (v_inR (v_lenS (by rfl) T.len (v_var (a := x) 0 rfl (rx _)) (z2 hz)) v_int v_int T.range)).to ?_)
        (a_consV (x := isLt (.str x)) (v_and (v_var (a := clean x) 2 rfl (rb _)) fun _ => v_one (v_cmp op_eq (v_lenS (by rfl) T.len (v_var (a := x) 0 rfl (rx _)) (z2 hz)) v_int od_eqI))
        (a_consV (x := isTx (.str x)) (v_and (v_var (a := clean x) 2 rfl (rb _)) fun _ => v_one (v_cmpI op_le (v_lenS (by rfl) T.len (v_var (a := x) 0 rfl (rx _)) (z2 hz)) v_int (nomark _))) a_nil))) (by show 3 ≤ sizeLine; decide))
        fun v H3 r g3 er r3 => q v H3 r ((g1.trans g2).trans g3) ⟨_, rfl, er⟩ r3)
      show (clean x && decide ((1 : Int) ≤ x.length ∧ (x.length : Int) < 9)) = (clean x && (decide ((1 : Int) ≤ x.length) && decide ((x.length : Int) ≤ 8)))
      congr 1
      by_cases h1 : (1 : Int) ≤ x.length
      · by_cases h2 : (x.length : Int) ≤ 8
        · rw [decide_eq_true (show (1 : Int) ≤ x.length ∧ (x.length : Int) < 9 by omega), decide_eq_true h1, decide_eq_true h2]
          rfl
        · rw [decide_eq_false (show ¬ ((1 : Int) ≤ x.length ∧ (x.length : Int) < 9) by omega), decide_eq_true h1, decide_eq_false h2]
          rfl
      · rw [decide_eq_false (show ¬ ((1 : Int) ≤ x.length ∧ (x.length : Int) < 9) by omega), decide_eq_false h1]
        rfl
end
end K00
set_option Elab.async false
set_option linter.all false
set_option maxRecDepth 100000
set_option maxHeartbeats 1000000
set_option exponentiation.threshold 9000
namespace K00
open PySem PySem.Spec L2 Lp
abbrev sTexts : Stmt := topS 12
abbrev sLonger : Stmt := topS 13
abbrev sSigns : Stmt := topS 14
abbrev sLong : Stmt := topS 17
abbrev nLonger : List Str := ["_law_texts_here", "_law_letters", "_law_found", "_law_text", "_law_letter"]
abbrev nSigns : List Str := ["_law_dice_here", "_law_odd", "_law_turn"]
theorem scLonger : FnScope nLonger ["_law_texts_here", "_law_letters"] (defScope sLonger) := ⟨rfl, rfl, rfl, by decide +kernel, rfl, by decide +kernel, by decide +kernel⟩
theorem scTexts : FnScope ["_law_letters", "_law_most", "_law_layer", "_law_found", "_law_turn"] ["_law_letters", "_law_most"] (defScope sTexts) := ⟨rfl, rfl, rfl, by decide +kernel, rfl, by decide +kernel, by decide +kernel⟩
theorem scSigns : FnScope nSigns ["_law_dice_here"] (defScope sSigns) := ⟨rfl, rfl, rfl, by decide +kernel, rfl, by decide +kernel, by decide +kernel⟩
theorem scLong : FnScope ["_law_dice_here", "_law_signs_here", "_law_found", "_law_size", "_law_at", "_law_sign"] ["_law_dice_here", "_law_signs_here"] (defScope sLong) := ⟨rfl, rfl, rfl, by decide +kernel, rfl, by decide +kernel, by decide +kernel⟩
/-- at most n texts of at most B letters -/
def TxOk (B n : Nat) (d : PyData) : Prop := ∃ ts : List Str, d = .list (ts.map .str) ∧ ts.length ≤ n ∧ ∀ t ∈ ts, t.length ≤ B
def preLonger (ds : List PyData) : Prop := ∃ (B n : Nat) (d : PyData) (ls : List Str), ds = [d, .list (ls.map .str)] ∧ TxOk B n d ∧ B ≤ 1000 ∧ n ≤ 1000 ∧ ls.length ≤ 5 ∧ ∀ l ∈ ls, l.length ≤ 1
def resLonger (ds : List PyData) (r : PyData) : Prop := ∀ (B n : Nat) (d e : PyData), ds = [d, e] → TxOk B n d → TxOk (B + 1) (5 * n) r
theorem len_app (x y : Str) : (x ++ y).length = x.length + y.length := by
  rw [cps_len, cps_len, cps_len, PyProof.Rows.cps_toList_append, List.length_append]
theorem strs_inj : ∀ {a b : List Str}, a.map PyData.str = b.map PyData.str → a = b
  | [], [], _ => rfl
  | [], _ :: _, h => by cases h
  | _ :: _, [], h => by cases h
  | x :: a, y :: b, h => by
    injection h with h1 h2
    injection h1 with h1
    rw [h1, strs_inj h2]
def addTo (t : Str) : PyData → PyData
  | .str c => .str (t ++ c)
  | d => d
section
variable {P : Program} {w : World} {K : PySem.W.Frag} {mg : Str → Option Value} {base : Heap}
theorem ok_longer {f : Addr} {fd : FuncData} (F : Fun K "_law_longer" "_law_longer" sLonger f fd) : FnG P w K mg base CX0 1 f fd ["_law_texts_here", "_law_letters"] (spF K preLonger resLonger) := by
  refine okF F scLonger (fun ds h => ?_) (fun cdv B fr s J0 Z hr hg p J vs ds Q dk rs pr q => ?_)
  · obtain ⟨_, _, _, _, rfl, _⟩ := h
    rfl
  obtain ⟨B0, n0, d, ls, rfl, ⟨ts, rfl, hn0, hB0⟩, hB, hn, hls, hl1⟩ := pr
  cases rs with
  | cons rt rs =>
    cases rs with
    | cons rl rs =>
      cases rs
      refine ss_cons (s_new 2 dk scLonger.nd fun l hl => ?_)
      have nh := dk.ne hl
      have nl : p.d ≠ some l := fun z => nh (.inl z)
      have g0 : Go p J (upd J l (.lst [])) := .new dk hl
      have gq : Gq p l J (upd J l (.lst [])) := ⟨hl, g0, by rw [upd_same]; exact Option.some_ne_none _⟩
      refine ss_cons (s_forF (p := p.add l) 3 gq.dk .never rfl scLonger.nd ((v_var (a := PyData.list (ts.map .str)) 0 rfl (rt.gq gq)).imp fun d e => ⟨ts.map .str, rfl, e⟩)
        (fun H1 ds k σ' H' => DOk (p.add l) H' ∧ (∀ b o, p.d ≠ some b → b ≠ l → H1 b = some o → H' b = some o) ∧ ∃ o3 o4, σ' = [some _, some _, some (.ref l), o3, o4] ∧
          ∃ us : List Str, Fill (XX P w K mg base nLonger "_law_longer" sLonger f cdv B fr s J0 Z) p l H' (us.map .str) ∧ us.length ≤ 5 * k ∧ ∀ u ∈ us, ∃ t ∈ ts, u.length ≤ t.length + 1)
        (fun H1 ds g1 e => ⟨g1.dk, fun b o _ _ e => e, none, none, rfl, [], ⟨[], g1.ex l _ nl upd_same, .nil⟩, Nat.zero_le _, fun _ m => (nomatch m)⟩)
        (fun H1 ds k σ' H' g1 z b o e => z.2.1 b o (fun y => del_no e (.inl y)) (fun y => del_no e (.inr (y ▸ List.mem_cons_self))) (del_of e))
        (fun H1 ds k d v σ' H' g1 eds ek ⟨dk1, kp, o3, o4, eσ, us, fi, lu, bu⟩ rv => ?_) (fun H1 ds σ' H' g1 eds ⟨dk1, kp, o3, o4, eσ, us, fi, lu, bu⟩ => ?_)
        (hx := .inr rfl))
      · subst eds eσ
        obtain ⟨t, ht, rfl⟩ := List.mem_map.mp (List.mem_of_getElem? ek)
        cases rv
        have upJ : ∀ b o, del (p.add l) J b = some o → del (p.add l) H' b = some o := fun b o e => by
          have nb := del_no e
          rw [del_at nb] at e ⊢
          have n1 : p.d ≠ some b := fun y => nb (.inl y)
          have n2 : b ≠ l := fun y => nb (.inr (y ▸ List.mem_cons_self))
          exact kp b o n1 n2 (g1.ex b o n1 (by rw [upd_ne n2]; exact e))
        have rl' : Rep K (del (p.add l) H') _ (enc (PyData.list (ls.map .str))) := (rl.add hl).mono upJ
        refine ss_cons (s_extend (P := fun zs => zs = (ls.map PyData.str).map (addTo t)) 2 dk1 rfl nl fi (JE.imp (j_lc0 (P := fun ds => ds = ls.map .str) (g := addTo t) 4 rfl scLonger.nd ((v_var (a := PyData.list (ls.map .str)) 1 rfl rl').imp fun d e => ⟨_, rfl, e⟩)
          (fun ds e => by rw [e, List.length_map]; exact Nat.le_trans hls (by decide)) (blkOk_by (N := nLonger) (sc := defScope sLonger) (by decide +kernel)) (fun ds d v J2 q2 e md gs rd s2 J3 C cl fp => ?_)) fun d ⟨ds, e1, e2⟩ => ⟨_, by rw [e1], e2⟩) (fun zs e => ?_) fun H2 H3 zs g2 ez f3 same dk3 => ss_nil ?_)
        · subst e
          obtain ⟨c, hc, rfl⟩ := List.mem_map.mp md
          cases rd
          refine (v_addS (v_var (a := t) 3 rfl (.str t)) (v_var (a := c) 4 rfl (.str c)) ?_).conv fun a ea => ⟨_, congrArg PyData.str ea, rfl⟩
          have h1 := hB0 t ht
          have h2 := hl1 c hc
          have h3 : (1001 : Nat) ≤ sizeLine := by decide
          omega
        · rw [e, List.length_map, List.length_map, List.length_map]
          have hk : k < (ts.map PyData.str).length := (List.getElem?_eq_some_iff.mp ek).1
          rw [List.length_map] at hk
          have h3 : (10000 : Nat) ≤ sizeLine := by decide
          omega
        · subst ez
          have e5 : (ls.map PyData.str).map (addTo t) = (ls.map fun c => t ++ c).map PyData.str := by
            rw [List.map_map, List.map_map]
            rfl
          refine ⟨dk3, fun b o n1 n2 e => ?_, _, _, rfl, us ++ ls.map (fun c => t ++ c), ?_, ?_, fun u hu => ?_⟩
          · rw [same b n2]
            exact g2.ex b o n1 (kp b o n1 n2 e)
          · rw [List.map_append, ← e5]
            exact f3
          · rw [List.length_append, List.length_map]
            omega
          · rcases List.mem_append.mp hu with hu | hu
            · exact bu u hu
            · obtain ⟨c, hc, rfl⟩ := List.mem_map.mp hu
              refine ⟨t, ht, ?_⟩
              rw [len_app]
              have := hl1 c hc
              omega
      · subst eds eσ
        have gJ : Go p J H' := ⟨fun b o n1 e => kp b o n1 (ne_of_none e hl) (g1.ex b o n1 (by rw [upd_ne (ne_of_none e hl)]; exact e)), ⟨dk1.di, fun b m => dk1.lv b (List.mem_cons_of_mem _ m)⟩⟩
        refine ss_cons (s_ret gJ.dk (v_var (a := PyData.list (us.map .str)) 2 rfl (fi.rep nh)) fun v H2 d g2 ed r2 => ?_)
        subst ed
        refine q v H2 _ (gJ.trans g2) ?_ r2
        rintro B1 n1 d1 e1 e ⟨ts1, rfl, b1, b2⟩
        injection e with h1 h2
        injection h1 with h1
        have h3 := strs_inj h1
        subst h3
        refine ⟨us, rfl, ?_, fun u hu => ?_⟩
        · rw [List.length_map] at lu
          omega
        · obtain ⟨t, ht, hu⟩ := bu u hu
          have := b2 t ht
          omega
def preTexts (ds : List PyData) : Prop := ∃ ls : List Str, ds = [.list (ls.map .str), .int 4] ∧ ls.length ≤ 5 ∧ ∀ l ∈ ls, l.length ≤ 1
def resTexts (_ : List PyData) (r : PyData) : Prop := TxOk 4 3125 r
theorem one_empty : TxOk 0 1 (.list [.str Str.empty]) := ⟨[Str.empty], rfl, Nat.le_refl _, fun t ht => by rw [List.mem_singleton.mp ht]; exact Nat.le_refl _⟩
theorem TxOk.mono {B n B2 n2 : Nat} {d : PyData} (h : TxOk B n d) (h1 : B ≤ B2) (h2 : n ≤ n2) : TxOk B2 n2 d := by
  obtain ⟨ts, e, a, b⟩ := h
  exact ⟨ts, e, by omega, fun t ht => Nat.le_trans (b t ht) h1⟩
theorem TxOk.app {B n n2 : Nat} {ds es : List PyData} (h : TxOk B n (.list ds)) (h2 : TxOk B n2 (.list es)) : TxOk B (n + n2) (.list (ds ++ es)) := by
  obtain ⟨ts, e, a, b⟩ := h
  obtain ⟨us, e2, a2, b2⟩ := h2
  injection e with e
  injection e2 with e2
  refine ⟨ts ++ us, by rw [e, e2, List.map_append], by rw [List.length_append]; omega, fun t ht => ?_⟩
  rcases List.mem_append.mp ht with ht | ht
  · exact b t ht
  · exact b2 t ht
theorem TxOk.list {B n : Nat} {d : PyData} (h : TxOk B n d) : ∃ ds, d = .list ds ∧ ds.length ≤ n := by
  obtain ⟨ts, e, a, _⟩ := h
  exact ⟨_, e, by rw [List.length_map]; exact a⟩
theorem ok_texts {f fL : Addr} {fd fdL : FuncData} (F : Fun K "_law_texts" "_law_texts" sTexts f fd) (T : TC mg) (FL : Fun K "_law_longer" "_law_longer" sLonger fL fdL) (bL : Binds K fdL ["_law_texts_here", "_law_letters"] []) (gL : mg "_law_longer" = some (.ref fL)) :
    FnG P w K mg base CX0 2 f fd ["_law_letters", "_law_most"] (spF K preTexts resTexts) := by
  have GL : FnG P w K mg base CX0 1 fL fdL ["_law_texts_here", "_law_letters"] (spF K preLonger resLonger) := ok_longer FL
  refine okF F scTexts (fun ds h => ?_) (fun cdv B fr s J0 Z hr hg p J vs ds Q dk rs pr q => ?_)
  · obtain ⟨_, rfl, _⟩ := h
    rfl
  obtain ⟨ls, rfl, hls, hl1⟩ := pr
  cases rs with
  | cons rl rs =>
    cases rs with
    | cons rm rs =>
      cases rs
      cases rm
      refine ss_cons (s_par 2 3 dk rfl scTexts.nd (v_list (a_consV v_str a_nil) (by decide)) (v_list (a_consV v_str a_nil) (by decide)) (fun v2 v3 H1 u2 u3 g1 e2 e3 r2 r3 => ?_) (by decide))
      subst e2 e3
      refine ss_cons (s_forR 4 g1.dk .never rfl scTexts.nd T.range (v_var (a := (4 : Int)) 1 rfl (.int 4)) (fun n e => by subst e; decide)
        (fun _ _ k σ' H' => Go p J H' ∧ ∃ v2 v3 d2 d3 o4, σ' = [some _, some (.int 4), some v2, some v3, o4] ∧ Rep K (del p H') v2 d2 ∧ Rep K (del p H') v3 d3 ∧ TxOk k (5 ^ k) d2 ∧ TxOk k (5 ^ (k + 1)) d3)
        (fun H2 n g2 _ => ⟨g1.trans g2, v2, v3, _, _, none, rfl, r2.go g2, r3.go g2, one_empty, one_empty.mono (Nat.le_refl _) (by decide)⟩)
        (fun H2 n k σ' H' g2 en hk ⟨g3, v2, v3, d2, d3, o4, eσ, r2, r3, t2, t3⟩ => ?_) (fun H2 n σ' H' g2 en ⟨g3, v2, v3, d2, d3, o4, eσ, r2, r3, t2, t3⟩ => ?_))
      · subst eσ en
        have k4 : k < 4 := hk
        have p4 : 5 ^ k ≤ 125 := Nat.le_trans (Nat.pow_le_pow_right (by decide) (show k ≤ 3 by omega)) (by decide)
        have rl' : Rep K (del p H') _ (enc (PyData.list (ls.map .str))) := rl.go g3
        refine ss_cons (s_set (P := fun r : PyData => TxOk (k + 1) (5 ^ (k + 1)) r) 2 g3.dk ((j_fn GL hr hg gL FL.kp bL (a_2 (v_var (a := d2) 2 rfl r2) (v_var (a := PyData.list (ls.map .str)) 0 rfl rl')) ?_).imp ?_) scTexts.nd fun v5 H3 d5 g4 t5 r5 => ?_)
        · rintro ds ⟨x, y, ex, ey, ed⟩
          exact ⟨k, 5 ^ k, d2, ls, by rw [ed, ex, ey]; rfl, t2, by omega, by omega, hls, hl1⟩
        · rintro r ⟨ds, ⟨x, y, ex, ey, ed⟩, hR⟩
          have := hR k (5 ^ k) d2 (.list (ls.map .str)) (by rw [ed, ex, ey]; rfl) t2
          rw [Nat.pow_succ, Nat.mul_comm]
          exact this
        obtain ⟨l3, e3, n3⟩ := t3.list
        obtain ⟨l5, e5, n5⟩ := t5.list
        subst e3 e5
        have p5 : 5 ^ (k + 1) ≤ 625 := Nat.le_trans (Nat.pow_le_pow_right (by decide) (show k + 1 ≤ 4 by omega)) (by decide)
        refine ss_cons (s_set 3 g4.dk (j_cat ((v_var (a := PyData.list l3) 3 rfl (r3.go g4)).imp fun d e => ⟨_, rfl, e⟩) ((v_var (a := PyData.list l5) 2 rfl r5).imp fun d e => ⟨_, rfl, e⟩) fun ds es e1 e2 => ?_) scTexts.nd fun v6 H4 d6 g5 h6 r6 => ss_nil ?_)
        · have h1 := congrArg List.length e1
          have h2 := congrArg List.length e2
          have p6 : 5 ^ (k + 1) ≤ 625 := p5
          have : (2000 : Nat) ≤ sizeLine := by decide
          omega
        · obtain ⟨_, _, rfl, rfl, rfl⟩ := h6
          refine ⟨(g3.trans g4).trans g5, v5, v6, _, _, _, rfl, r5.go g5, r6, t5, ?_⟩
          refine ((t3.mono (Nat.le_succ _) (Nat.le_refl _)).app t5).mono (Nat.le_refl _) ?_
          rw [Nat.pow_succ 5 (k + 1)]
          omega
      · subst eσ en
        refine ss_cons (s_ret g3.dk (v_var (a := d3) 3 rfl r3) fun v H3 d g4 ed r4 => ?_)
        subst ed
        exact q v H3 _ (g3.trans g4) t3 r4
/-! ### the signs -/
def resSigns (_ : List PyData) (r : PyData) : Prop := ∃ ss : List Str, r = .list (ss.map .str) ∧ ss.length = 5 ∧ ∀ t ∈ ss, t.length = 1
def One (d : PyData) : Prop := ∃ c : Nat, d = .str ⟨#[c]⟩
theorem ones : ∀ {ds : List PyData}, (∀ d ∈ ds, One d) → ∃ ss : List Str, ds = ss.map .str ∧ ∀ t ∈ ss, t.length = 1
  | [], _ => ⟨[], rfl, fun _ m => (nomatch m)⟩
  | d :: ds, h => by
    obtain ⟨c, rfl⟩ := h d List.mem_cons_self
    obtain ⟨ss, e, b⟩ := ones fun x m => h x (List.mem_cons_of_mem _ m)
    refine ⟨⟨#[c]⟩ :: ss, by rw [e]; rfl, fun t ht => ?_⟩
    rcases List.mem_cons.mp ht with ht | ht
    · rw [ht]
      rfl
    · exact b t ht
abbrev oddS : Str := "ABYZ 0159_-.,:;#()[]{}<>|~`'\"\\/@^&*+=!?$\n"
theorem ok_signs {f fR fP : Addr} {fd fdR fdP : FuncData} (F : Fun K "_law_signs" "_law_signs" sSigns f fd) (T : TC mg) (FR : Fun K "_law_roll" "_law_roll" sRoll fR fdR) (bR : Binds K fdR ["_law_dice_here", "_law_total"] []) (gR : mg "_law_roll" = some (.ref fR))
    (FP : Fun K "_law_pick" "_law_pick" sPick fP fdP) (bP : Binds K fdP ["_law_dice_here", "_law_items"] []) (gP : mg "_law_pick" = some (.ref fP)) : FnG P w K mg base CX0 3 f fd ["_law_dice_here"] (spD K (fun ds => ds = []) resSigns) := by
  have GP : FnG P w K mg base CX0 2 fP fdP ["_law_dice_here", "_law_items"] (spD K prePickS resPickS) := ok_pickS FP T.toTD FR bR gR
  refine okD F scSigns (fun ds h => by rw [h]; rfl) (fun cdv B fr s J0 Z hr hg a p J ws ds Q hp dk rs pr q => ?_)
  subst pr
  cases rs
  refine ss_cons (s_set 1 dk v_str scSigns.nd (fun ov H1 od g1 ed r1 => ?_) (hx := .inr rfl))
  subst ed
  cases rep_str r1
  have pk : ∀ (z : Str), 0 < z.length → z.length ≤ 100000 → ∀ ds, (∃ x, x = z ∧ ds = [enc x]) → prePickS ds := fun z h1 h2 ds ⟨x, ex, ed⟩ => ⟨z, by rw [ed, ex]; rfl, h1, h2⟩
  have one : ∀ (z : Str) (r : PyData), (∃ ds, (∃ x, x = z ∧ ds = [enc x]) ∧ resPickS ds r) → One r := fun z r ⟨ds, ⟨x, ex, ed⟩, z2, e, c, _, er⟩ => ⟨c, er⟩
  refine ss_cons (s_ret g1.dk (j_cat (j_list (a_cons ((j_fd GP hr hg gP FP.kp bP 0 rfl hp (a_1 v_str) (pk "abmyz" (by decide) (by decide))).imp (one "abmyz")) (a_1 ((j_fd GP hr hg gP FP.kp bP 0 rfl hp (a_1 v_str) (pk "zaxc" (by decide) (by decide))).imp (one "zaxc")))) ?_)
    (JE.imp (P := fun d : PyData => ∃ (n : Int) (ds : List PyData), n = 3 ∧ ds.length = n.toNat ∧ (∀ d ∈ ds, One d) ∧ d = .list ds) (P' := fun d : PyData => ∃ ds, (ds.length = 3 ∧ ∀ d ∈ ds, One d) ∧ d = .list ds) ?_ fun d ⟨n, ds, e1, e2, e3, e4⟩ => ⟨ds, ⟨by rw [e1] at e2; exact e2, e3⟩, e4⟩) ?_) fun v H2 d g2 hd r2 => ?_)
  · rintro ds ⟨_, _, _, ⟨_, _, rfl⟩, rfl⟩
    show 2 ≤ sizeLine
    decide
  · refine j_lcR (P := fun n => n = 3) (A := One) 2 rfl scSigns.nd T.range v_int (fun n e => by subst e; decide) (blkOk_by (N := nSigns) (sc := defScope sSigns) (by decide +kernel)) (fun k J2 q2 gs s2 J3 C cl fp => ?_)
    refine JE.imp (P := fun r : PyData => ∃ ds, (∃ x, x = oddS ∧ ds = [enc x]) ∧ resPickS ds r) ?_ (one oddS)
    exact j_fd GP hr hg gP FP.kp bP 0 rfl hp (a_1 (v_var (a := oddS) 1 rfl (.str oddS))) (pk oddS (by decide) (by decide))
  · rintro ds es ⟨_, _, _, ⟨_, _, rfl⟩, rfl⟩ ⟨h1, _⟩
    show 2 + es.length ≤ sizeLine
    rw [h1]
    decide
  · obtain ⟨ds, es, ⟨x1, _, o1, ⟨x2, o2, rfl⟩, rfl⟩, ⟨h1, h2⟩, rfl⟩ := hd
    refine q v H2 _ (g1.trans g2) ?_ r2
    obtain ⟨ss, e, b⟩ := ones (ds := [x1, x2] ++ es) fun d m => by
      rcases List.mem_append.mp m with m | m
      · simp only [List.mem_cons, List.not_mem_nil, or_false] at m
        rcases m with rfl | rfl
        · exact o1
        · exact o2
      · exact h2 d m
    refine ⟨ss, by rw [← e]; rfl, ?_, b⟩
    have := congrArg List.length e
    rw [List.length_map, List.length_append, h1] at this
    exact this.symm
end
end K00
set_option Elab.async false
set_option linter.all false
set_option maxRecDepth 100000
set_option maxHeartbeats 2000000
set_option exponentiation.threshold 9000
namespace K00
open PySem PySem.Spec L2 Lp
section
variable {P : Program} {w : World} {K : PySem.W.Frag} {mg : Str → Option Value} {base : Heap}
def preLong (ds : List PyData) : Prop := ∃ ss : List Str, ds = [.list (ss.map .str)] ∧ ss.length = 5 ∧ ∀ t ∈ ss, t.length = 1
def resLong (_ : List PyData) (r : PyData) : Prop := TxOk 4000 5 r
theorem v_asS {X : Cx} {p : OA} {e : Expr} {σ : L2.St} {H : Hp} {s : Str} (h : JV X p e σ H (PyData.str s)) : JV X p e σ H s := JE.conv h fun a e => ⟨s, by rw [e]; rfl, rfl⟩
theorem five {ss : List Str} (h : ss.length = 5) : ∃ a b c d e, ss = [a, b, c, d, e] := by
  match ss, h with
  | [a, b, c, d, e], _ => exact ⟨a, b, c, d, e, rfl⟩
theorem ok_long {f fR fP : Addr} {fd fdR fdP : FuncData} (F : Fun K "_law_long" "_law_long" sLong f fd) (T : TC mg) (FR : Fun K "_law_roll" "_law_roll" sRoll fR fdR) (bR : Binds K fdR ["_law_dice_here", "_law_total"] []) (gR : mg "_law_roll" = some (.ref fR))
    (FP : Fun K "_law_pick" "_law_pick" sPick fP fdP) (bP : Binds K fdP ["_law_dice_here", "_law_items"] []) (gP : mg "_law_pick" = some (.ref fP)) : FnG P w K mg base CX0 3 f fd ["_law_dice_here", "_law_signs_here"] (spD K preLong resLong) := by
  have GR : FnG P w K mg base CX0 2 fR fdR ["_law_dice_here", "_law_total"] (spD K preRoll resRoll) := (ok_roll FR T.toTD).mono (by decide)
  have GP : FnG P w K mg base CX0 2 fP fdP ["_law_dice_here", "_law_items"] (spD K prePick resPick) := ok_pick FP T.toTD FR bR gR
  refine okD F scLong (fun ds h => ?_) (fun cdv B fr s J0 Z hr hg a p J ws ds Q hp dk rs pr q => ?_)
  · obtain ⟨_, rfl, _⟩ := h
    rfl
  obtain ⟨ss, rfl, h5, h1⟩ := pr
  cases rs with
  | cons rt rs =>
    cases rs
    refine ss_cons (s_new 2 dk scLong.nd fun l hl => ?_)
    have nh := dk.ne hl
    have nl : p.d ≠ some l := fun z => nh (.inl z)
    have g0 : Go p J (upd J l (.lst [])) := .new dk hl
    have gq : Gq p l J (upd J l (.lst [])) := ⟨hl, g0, by rw [upd_same]; exact Option.some_ne_none _⟩
    refine ss_cons (s_forT (p := p.add l) (P := fun ds => ds = [.int 7, .int 8, .int 9, .int 3999, .int 4000]) 3 gq.dk .never rfl scLong.nd (JE.imp (v_tuple (r := [.int 7, .int 8, .int 9, .int 3999, .int 4000]) (a_consV (x := (7 : Int)) v_int (a_consV (x := (8 : Int)) v_int (a_consV (x := (9 : Int)) v_int (a_consV (x := (3999 : Int)) v_int (a_consV (x := (4000 : Int)) v_int a_nil))))) (by show 5 ≤ sizeLine; decide)) fun d e => ⟨_, rfl, e⟩)
      (fun H1 ds k σ' H' => DOk (p.add l) H' ∧ (∀ b o, p.d ≠ some b → b ≠ l → H1 b = some o → H' b = some o) ∧ ∃ o3 o4 o5, σ' = [some (.ref a), some _, some (.ref l), o3, o4, o5] ∧
        ∃ us : List Str, Fill (XX P w K mg base ["_law_dice_here", "_law_signs_here", "_law_found", "_law_size", "_law_at", "_law_sign"] "_law_long" sLong f cdv B fr s J0 Z) p l H' (us.map .str) ∧ us.length ≤ k ∧ ∀ u ∈ us, u.length ≤ 4000)
      (fun H1 ds g1 e => ⟨g1.dk, fun b o _ _ e => e, none, none, none, rfl, [], ⟨[], g1.ex l _ nl upd_same, .nil⟩, Nat.zero_le _, fun _ m => (nomatch m)⟩)
      (fun H1 ds k σ' H' g1 z b o n e => z.2.1 b o n (fun y => del_no e (.inr (y ▸ List.mem_cons_self))) (del_of e))
      (fun H1 ds k d v σ' H' g1 eds ek ⟨dk1, kp, o3, o4, o5, eσ, us, fi, lu, bu⟩ rv => ?_) (fun H1 ds σ' H' g1 eds ⟨dk1, kp, o3, o4, o5, eσ, us, fi, lu, bu⟩ => ?_))
    · subst eds eσ
      have upJ : ∀ b o, del (p.add l) J b = some o → del (p.add l) H' b = some o := fun b o e => by
        have nb := del_no e
        rw [del_at nb] at e ⊢
        have n1 : p.d ≠ some b := fun y => nb (.inl y)
        have n2 : b ≠ l := fun y => nb (.inr (y ▸ List.mem_cons_self))
        exact kp b o n1 n2 (g1.ex b o n1 (by rw [upd_ne n2]; exact e))
      have rs' : Rep K (del (p.add l) H') _ (enc (PyData.list (ss.map .str))) := (rt.add hl).mono upJ
      have hp' : (p.add l).d = some a := hp
      obtain ⟨z, rfl, z7, z4⟩ : ∃ z : Int, d = .int z ∧ 7 ≤ z ∧ z ≤ 4000 := by
        have m := List.mem_of_getElem? ek
        simp only [List.mem_cons, List.not_mem_nil, or_false] at m
        rcases m with rfl | rfl | rfl | rfl | rfl <;> exact ⟨_, rfl, by decide, by decide⟩
      cases rv
      obtain ⟨s0, s1, s2, s3, s4, es⟩ := five h5
      have t2 : ∀ n : Int, 0 < n → n ≤ 4000 → n.natAbs < 2 ^ 8000 := fun n h h' => by
        have h1 : (4000 : Nat) < 2 ^ 20 := by decide
        have h2 : (2 : Nat) ^ 20 ≤ 2 ^ 8000 := Nat.pow_le_pow_right (by decide) (by decide)
        omega
      -- at
      refine ss_cons (s_set (P := fun n : Int => 0 ≤ n ∧ n < z) 4 dk1 (JE.conv (j_fd GP hr hg gP FP.kp bP 0 rfl hp' (a_1 (j_list (a_cons v_int (a_cons (v_sub (v_var (a := z) 3 rfl (.int z)) v_int) (a_1 (j_fd GR hr hg gR FR.kp bR 0 rfl hp' (a_1 (v_var (a := z) 3 rfl (.int z))) ?_)))) ?_)) ?_) ?_) scLong.nd fun va H2 n g2 hn r2 => ?_)
      · rintro ds ⟨x, ex, ed⟩
        exact ⟨z, by rw [ed, ex]; rfl, by omega, t2 z (by omega) z4⟩
      · rintro ds ⟨_, _, _, ⟨_, _, _, ⟨_, _, rfl⟩, rfl⟩, rfl⟩
        show 3 ≤ sizeLine
        decide
      · rintro ds ⟨x, ⟨es, ⟨_, _, _, ⟨_, _, _, ⟨_, _, rfl⟩, rfl⟩, rfl⟩, rfl⟩, rfl⟩
        exact ⟨_, rfl, by show 0 < 3; decide, by show 3 < 2 ^ 62; decide⟩
      · rintro d ⟨ds, ⟨x, ⟨es, ⟨x1, _, e1, ⟨x2, _, e2, ⟨x3, ⟨ds3, ⟨y, ey, ed3⟩, tt, et, h0, h0'⟩, rfl⟩, rfl⟩, rfl⟩, rfl⟩, rfl⟩, es2, e5, hd⟩
        injection e5 with e5 _
        injection e5 with e5
        subst e5
        have etz : tt = z := by
          rw [ed3, ey] at et
          injection et with et _
          injection et with et
          exact et.symm
        rw [etz] at h0'
        simp only [List.mem_cons, List.not_mem_nil, or_false] at hd
        rcases hd with rfl | rfl | rfl
        · exact ⟨x1, rfl, by omega, by omega⟩
        · exact ⟨x2, rfl, by omega, by omega⟩
        · exact ⟨x3, rfl, h0, h0'⟩
      cases rep_int r2
      obtain ⟨hn0, hn1⟩ := hn
      obtain ⟨m, rfl⟩ := Int.eq_ofNat_of_zero_le hn0
      have rs2 := rs'.go g2
      have at1 : atI (ss.map PyData.str) 1 = some (.str s1) := by rw [es]; exact atI_nat (j := 1) rfl
      have at0 : atI (ss.map PyData.str) 0 = some (.str s0) := by rw [es]; exact atI_nat (j := 0) rfl
      have l0 : s0.length = 1 := h1 s0 (by rw [es]; simp)
      have l1 : s1.length = 1 := h1 s1 (by rw [es]; simp)
      -- sign
      refine ss_cons (s_set (P := fun t : Str => t.length = 1) 5 g2.dk (JE.conv (j_fd GP hr hg gP FP.kp bP 0 rfl hp' (a_1 (j_list (a_cons (v_ix (v_var (a := PyData.list (ss.map .str)) 1 rfl rs2) v_int at1) (a_cons (v_ix (v_var (a := PyData.list (ss.map .str)) 1 rfl rs2) v_int at1) (a_1 (j_fd GP hr hg gP FP.kp bP 0 rfl hp' (a_1 (v_var (a := PyData.list (ss.map .str)) 1 rfl rs2)) ?_)))) ?_)) ?_) ?_) scLong.nd fun vt H3 tg g3 ht r3 => ?_)
      · rintro ds ⟨x, ex, ed⟩
        exact ⟨ss.map .str, by rw [ed, ex]; rfl, by rw [List.length_map, h5]; decide, by rw [List.length_map, h5]; decide⟩
      · rintro ds ⟨_, _, _, ⟨_, _, _, ⟨_, _, rfl⟩, rfl⟩, rfl⟩
        show 3 ≤ sizeLine
        decide
      · rintro ds ⟨x, ⟨es, ⟨_, _, _, ⟨_, _, _, ⟨_, _, rfl⟩, rfl⟩, rfl⟩, rfl⟩, rfl⟩
        exact ⟨_, rfl, by show 0 < 3; decide, by show 3 < 2 ^ 62; decide⟩
      · rintro d ⟨ds, ⟨x, ⟨es', ⟨x1, _, e1, ⟨x2, _, e2, ⟨x3, ⟨ds3, ⟨y, ey, ed3⟩, es3, e6, hd3⟩, rfl⟩, rfl⟩, rfl⟩, rfl⟩, rfl⟩, es2, e5, hd⟩
        injection e5 with e5 _
        injection e5 with e5
        subst e5
        rw [ed3, ey] at e6
        injection e6 with e6 _
        injection e6 with e6
        subst e6
        simp only [List.mem_cons, List.not_mem_nil, or_false] at hd
        rcases hd with rfl | rfl | rfl
        · exact ⟨s1, e1, l1⟩
        · exact ⟨s1, e2, l1⟩
        · obtain ⟨c, hc, e7⟩ := List.mem_map.mp hd3
          exact ⟨c, e7.symm, h1 c hc⟩
      cases rep_str r3
      have rs3 := rs2.go g3
      obtain ⟨m2, hm2⟩ : ∃ m2 : Nat, z - 1 - (m : Int) = (m2 : Int) := Int.eq_ofNat_of_zero_le (by omega)
      have big : (10000 : Nat) ≤ sizeLine := by decide
      have lr : ∀ k : Nat, (repS s0 k).length = k := fun k => by rw [repS_len, l0, Nat.mul_one]
      refine ss_cons (s_append (P := fun t : Str => t.length ≤ 4000) 2 g3.dk rfl nl (fi.go nl (g2.trans g3)) ?_ ?_ fun H4 H5 u g4 hu f5 same dk5 => ss_nil ?_)
      · rw [List.length_map]
        have hk := (List.getElem?_eq_some_iff.mp ek).1
        have hk2 : k < 5 := hk
        omega
      · refine JE.imp (P := fun t : Str => t = (repS s0 m ++ tg) ++ repS s0 m2) ?_ fun t et => ?_
        · refine v_addS (x := repS s0 m ++ tg) (y := repS s0 m2) ?_ ?_ (by rw [len_app, lr, lr]; omega)
          · refine v_addS (x := repS s0 m) (y := tg) ?_ ?_ (by rw [lr]; omega)
            · exact v_mulS (z := s0) (n := m) (v_asS (v_ix (v_var (a := PyData.list (ss.map .str)) 1 rfl rs3) v_int at0)) (v_var (a := ((m : Nat) : Int)) 4 rfl (.int _)) (by omega) (by omega) (by rw [l0]; omega)
            · exact v_var (a := tg) 5 rfl (.str _)
          · exact v_mulS (z := s0) (n := m2) (v_asS (v_ix (v_var (a := PyData.list (ss.map .str)) 1 rfl rs3) v_int at0)) ((v_sub (v_sub (v_var (a := z) 3 rfl (.int z)) v_int) (v_var (a := ((m : Nat) : Int)) 4 rfl (.int _))).to hm2) (by omega) (by omega) (by rw [l0]; omega)
        · rw [et, len_app, len_app, lr, lr]
          omega
      · refine ⟨dk5, fun b o n1 n2 e => ?_, _, _, _, rfl, us ++ [u], by rw [List.map_append]; exact f5, by rw [List.length_append]; show us.length + 1 ≤ k + 1; omega, fun x hx => ?_⟩
        · rw [same b n2]
          exact ((g2.trans g3).trans g4).ex b o n1 (kp b o n1 n2 e)
        · rcases List.mem_append.mp hx with hx | hx
          · exact bu x hx
          · rw [List.mem_singleton.mp hx]
            exact hu
    · subst eds eσ
      have gJ : Go p J H' := ⟨fun b o n1 e => kp b o n1 (ne_of_none e hl) (g1.ex b o n1 (by rw [upd_ne (ne_of_none e hl)]; exact e)), ⟨dk1.di, fun b m => dk1.lv b (List.mem_cons_of_mem _ m)⟩⟩
      refine ss_cons (s_ret gJ.dk (v_var (a := PyData.list (us.map .str)) 2 rfl (fi.rep nh)) fun v H2 d g2 ed r2 => ?_)
      subst ed
      exact q v H2 _ (gJ.trans g2) ⟨us, rfl, lu, bu⟩ r2
end
end K00
set_option Elab.async false
set_option linter.all false
set_option maxRecDepth 100000
set_option maxHeartbeats 8000000
set_option exponentiation.threshold 9000
namespace K00
open PySem PySem.Spec L2 Lp
abbrev sLaw : Stmt := topS 18
abbrev nLaw : List Str := ["_law_script", "_law_spot", "_law_dice_here", "_law_signs_here", "_law_text", "_law_odd", "_law_value"]
theorem scLaw : FnScope nLaw ["_law_script"] (defScope sLaw) := ⟨rfl, rfl, rfl, by decide +kernel, rfl, by decide +kernel, by decide +kernel⟩
theorem nodup_le : ∀ {ys ss : List Str}, ys.Nodup → (∀ x ∈ ys, x ∈ ss) → ys.length ≤ ss.length
  | [], _, _, _ => Nat.zero_le _
  | y :: ys, ss, h, m => by
    obtain ⟨h1, h2⟩ := List.nodup_cons.mp h
    have hy := m y List.mem_cons_self
    have h3 := nodup_le (ss := ss.filter (fun s => decide (s ≠ y))) h2 fun x hx => List.mem_filter.mpr ⟨m x (List.mem_cons_of_mem _ hx), decide_eq_true fun e => h1 (e ▸ hx)⟩
    have h4 : (ss.filter (fun s => decide (s ≠ y))).length < ss.length := List.length_filter_lt_length_iff_exists.mpr ⟨y, hy, by simp⟩
    show ys.length + 1 ≤ ss.length
    omega
theorem shows_b3 (x y z : Bool) : Shows (PyData.list [.bool x, .bool y, .bool z]) := by
  cases x <;> cases y <;> cases z <;> exact ⟨by decide +kernel, by decide +kernel, by decide +kernel, by decide +kernel⟩
theorem clean_of {x : Str} (h : ∀ c ∈ x.cps.toList, 97 ≤ c ∧ c ≤ 122) : clean x = true := by
  have e : letS.cps = #[97, 98, 99, 100, 101, 102, 103, 104, 105, 106, 107, 108, 109, 110, 111, 112, 113, 114, 115, 116, 117, 118, 119, 120, 121, 122] := by decide +kernel
  have h0 : (Txt.stripChars x letS).length = 0 := by
    unfold Txt.stripChars
    refine strip_len (a := x.cps.toList) (b := []) (by rw [List.append_nil]) (fun c hc => ?_) (fun c hc => by cases hc)
    obtain ⟨h1, h2⟩ := h c hc
    rw [e]
    simp only [Array.contains_eq_mem, List.mem_toArray, decide_eq_true_eq]
    simp only [List.mem_cons, List.not_mem_nil, or_false]
    omega
  refine decide_eq_true ?_
  refine str_ext ?_
  rw [cps_len] at h0
  rw [List.length_eq_zero_iff.mp h0]
  rfl
def oddL : List PyData := [.none, .int 0, .int 7, .bool true, .tuple [.str "a"], .list [.str "a"], .dict [(.str "a", .str "a")], .tuple [], .int (10 ^ 59), .tuple [.str "a", .str "b"]]
theorem odd_no : ∀ d ∈ oddL, told d = .list [.bool false, .bool false, .bool false] ∧ ∀ x, d ≠ .str x := by
  intro d h
  unfold oddL at h
  simp only [List.mem_cons, List.not_mem_nil, or_false] at h
  rcases h with rfl | rfl | rfl | rfl | rfl | rfl | rfl | rfl | rfl | rfl <;> exact ⟨rfl, fun x e => by cases e⟩
def noD (d : PyData) : Bool := !PyData.eqv (told d) (.list [.bool false, .bool false, .bool false])
def spLaw (K : PySem.W.Frag) : Sp := fun vs J Q _ => ∃ (a : Addr) (ns : List Int), vs = [.ref a] ∧ SqL K J a (ns.map V.int) ∧ ns.length ≤ 63 ∧ ∀ J', Q (.bl true) J'
def fewT (B n : Nat) (ds : List PyData) : Prop := ∃ ts : List Str, ds = ts.map .str ∧ ts.length ≤ n ∧ ∀ t ∈ ts, t.length ≤ B
def qTexts (ss : List Str) (ds : List PyData) : Prop := ∃ (x : PyData) (y : Int), (∃ xs ys : List Str, xs = ss ∧ PyProof.Rows.sortedS ys = true ∧ ys.Nodup ∧ (∀ x, x ∈ ys ↔ x ∈ xs) ∧ x = .list (ys.map .str)) ∧ y = 4 ∧ ds = [enc x, enc y]
theorem qTexts_pre {ss : List Str} (h5 : ss.length = 5) (h1 : ∀ t ∈ ss, t.length = 1) (ds : List PyData) (h : qTexts ss ds) : preTexts ds := by
  obtain ⟨x, y, ⟨xs, ys, rfl, _, nd, hm, rfl⟩, rfl, rfl⟩ := h
  refine ⟨ys, rfl, by rw [← h5]; exact nodup_le nd fun x hx => (hm x).mp hx, fun l hl => by rw [h1 l ((hm l).mp hl)]; exact Nat.le_refl _⟩
theorem repS_mem {x : Str} {n : Nat} {c : Nat} (h : c ∈ (repS x n).cps.toList) : c ∈ x.cps.toList := by
  have h' : c ∈ (List.replicate n x.cps.toList).flatten := h
  obtain ⟨l, hl, hc⟩ := List.mem_flatten.mp h'
  rw [(List.mem_replicate.mp hl).2] at hc
  exact hc
theorem tx1 : isTx (.str (repS "ab" 50000)) = true := by
  have h : clean (repS "ab" 50000) = true := clean_of fun c hc => by
    have hc := repS_mem hc
    have e : ("ab" : Str).cps.toList = [97, 98] := by decide +kernel
    rw [e] at hc
    simp only [List.mem_cons, List.not_mem_nil, or_false] at hc
    omega
  show (clean (repS "ab" 50000) && decide (((repS "ab" 50000).length : Int) ≤ 100000)) = true
  rw [h, repS_len, show ("ab" : Str).length = 2 from rfl]
  decide
theorem tx2 : isTx (.str (repS "a" 99999 ++ ("z" : Str))) = true := by
  have h : clean (repS "a" 99999 ++ ("z" : Str)) = true := clean_of fun c hc => by
    rw [PyProof.Rows.cps_toList_append] at hc
    rcases List.mem_append.mp hc with hc | hc
    · have hc := repS_mem hc
      have e : ("a" : Str).cps.toList = [97] := by decide +kernel
      rw [e] at hc
      simp only [List.mem_cons, List.not_mem_nil, or_false] at hc
      omega
    · have e : ("z" : Str).cps.toList = [122] := by decide +kernel
      rw [e] at hc
      simp only [List.mem_cons, List.not_mem_nil, or_false] at hc
      omega
  show (clean (repS "a" 99999 ++ ("z" : Str)) && decide (((repS "a" 99999 ++ ("z" : Str)).length : Int) ≤ 100000)) = true
  rw [h, len_app, repS_len, show ("a" : Str).length = 1 from rfl, show ("z" : Str).length = 1 from rfl]
  decide
theorem tx3 : isTx (.str (repS "b" 100001)) = false := by
  show (clean (repS "b" 100001) && decide (((repS "b" 100001).length : Int) ≤ 100000)) = false
  rw [repS_len, show ("b" : Str).length = 1 from rfl]
  have : decide (((100001 * 1 : Nat) : Int) ≤ 100000) = false := by decide
  rw [this, Bool.and_false]
section
variable {P : Program} {w : World} {K : PySem.W.Frag} {mg : Str → Option Value} {base : Heap}
theorem ok_law {f fD fR fP fX fG fS fT fU fL fO fN fE fI : Addr} {fd fdD fdR fdP fdX fdG fdS fdT fdU fdL fdO fdN fdE fdI : FuncData} (F : Fun K "law" "law" sLaw f fd) (T : TC mg)
    (FD : Fun K "_law_dice" "_law_dice" sDice fD fdD) (bD : Binds K fdD ["_law_script", "_law_spot"] []) (gD : mg "_law_dice" = some (.ref fD))
    (FR : Fun K "_law_roll" "_law_roll" sRoll fR fdR) (bR : Binds K fdR ["_law_dice_here", "_law_total"] []) (gR : mg "_law_roll" = some (.ref fR))
    (FP : Fun K "_law_pick" "_law_pick" sPick fP fdP) (bP : Binds K fdP ["_law_dice_here", "_law_items"] []) (gP : mg "_law_pick" = some (.ref fP))
    (FX : Fun K "_law_texts" "_law_texts" sTexts fX fdX) (bX : Binds K fdX ["_law_letters", "_law_most"] []) (gX : mg "_law_texts" = some (.ref fX))
    (FG : Fun K "_law_longer" "_law_longer" sLonger fG fdG) (bG : Binds K fdG ["_law_texts_here", "_law_letters"] []) (gG : mg "_law_longer" = some (.ref fG))
    (FS : Fun K "_law_signs" "_law_signs" sSigns fS fdS) (bS : Binds K fdS ["_law_dice_here"] []) (gS : mg "_law_signs" = some (.ref fS))
    (FT : Fun K "_law_told" "_law_told" sTold fT fdT) (bT : Binds K fdT ["_law_text"] []) (gT : mg "_law_told" = some (.ref fT))
    (FU : Fun K "_law_due" "_law_due" sDue fU fdU) (bU : Binds K fdU ["_law_text"] []) (gU : mg "_law_due" = some (.ref fU))
    (FL : Fun K "_law_long" "_law_long" sLong fL fdL) (bL : Binds K fdL ["_law_dice_here", "_law_signs_here"] []) (gL : mg "_law_long" = some (.ref fL))
    (FO : Fun K "_is_of_letters" "_is_of_letters" sOf fO fdO) (bO : Binds K fdO ["value"] []) (gO : mg "_is_of_letters" = some (.ref fO))
    (FN : Fun K "is_name" "is_name" sName fN fdN) (bN : Binds K fdN ["value"] []) (gN : mg "is_name" = some (.ref fN))
    (FE : Fun K "is_letter" "is_letter" sLetter fE fdE) (bE : Binds K fdE ["value"] []) (gE : mg "is_letter" = some (.ref fE))
    (FI : Fun K "is_text" "is_text" sText fI fdI) (bI : Binds K fdI ["value"] []) (gI : mg "is_text" = some (.ref fI)) :
    FnG P w K mg base CX0 4 f fd ["_law_script"] (spLaw K) := by
  have GD : FnG P w K mg base CX0 3 fD fdD ["_law_script", "_law_spot"] (spDice K) := (ok_dice FD T.toTD).mono (by decide)
  have GS : FnG P w K mg base CX0 3 fS fdS ["_law_dice_here"] (spD K (fun ds => ds = []) resSigns) := ok_signs FS T FR bR gR FP bP gP
  have GL : FnG P w K mg base CX0 3 fL fdL ["_law_dice_here", "_law_signs_here"] (spD K preLong resLong) := ok_long FL T FR bR gR FP bP gP
  have GX : FnG P w K mg base CX0 3 fX fdX ["_law_letters", "_law_most"] (spF K preTexts resTexts) := (ok_texts FX T FG bG gG).mono (by decide)
  have GT : FnG P w K mg base CX0 3 fT fdT ["_law_text"] (spF K preV (fun ds (r : PyData) => ∃ d, ds = [d] ∧ r = told d)) := ok_told FT T FO bO gO FN bN gN FE bE gE FI bI gI
  have GU : FnG P w K mg base CX0 3 fU fdU ["_law_text"] (spF K (fun ds => ∃ x : Str, ds = [.str x] ∧ x.length ≤ 200000) (fun ds (r : PyData) => ∃ d, ds = [d] ∧ r = told d)) := (ok_due FU T).mono (by decide)
  have GI : FnG P w K mg base CX0 3 fI fdI ["value"] (spF K preV (fun ds (r : Bool) => ∃ d, ds = [d] ∧ r = isTx d)) := (ok_text FI T FO bO gO).mono (by decide)
  have rT : ∀ (d : PyData) (r : PyData), (∃ d', [d] = [d'] ∧ r = told d') → r = told d := fun d r ⟨d', e, er⟩ => by cases e; exact er
  have rI : ∀ (x : Str) (r : Bool), (∃ d', [PyData.str x] = [d'] ∧ r = isTx d') → r = isTx (.str x) := fun d r ⟨d', e, er⟩ => by cases e; exact er
  refine okN F scLaw (fun vs H Q E h => ?_) (fun cdv B fr s J xs Q Z hr hg h => ⟨_, semSs, ?_⟩)
  · obtain ⟨a, ns, rfl, _⟩ := h
    rfl
  obtain ⟨a, ns, rfl, hS, hl, q⟩ := h
  have hu := hr.units
  have dk : DOk no J := dok_none
  have hQ : SqL K (del no J) a (ns.map V.int) := by
    rw [del_none]
    exact hS
  refine ss_cons (s_forR (P := fun n : Int => 0 ≤ n ∧ n ≤ 4) 1 dk .never rfl scLaw.nd T.range ((v_max rfl (by rfl) T.max v_int (v_min rfl (by rfl) T.min v_int (v_lenQ (by rfl) T.len 0 rfl hQ))).imp fun n e => ?_) (fun n e => by omega)
    (fun _ _ k σ' H' => (∀ b o, J b = some o → H' b = some o) ∧ ∃ o1 o2 o3 o4 o5 o6 : Option V, σ' = [some (.ref a), o1, o2, o3, o4, o5, o6])
    (fun H1 n g1 _ => ⟨fun b o e => g1.ex b o (fun z => nomatch z) e, none, none, none, none, none, none, rfl⟩) (fun H1 n k σ' H' g1 hn hk ⟨x2, o1, o2, o3, o4, o5, o6, eσ⟩ => ?_) (fun H1 n σ' H' g1 hn ⟨x2, o1, o2, o3, o4, o5, o6, eσ⟩ => ?_))
  · subst e
    split <;> (try split) <;> omega
  · subst eσ
    refine ss_cons (s_dice 2 0 1 scLaw.nd GD hr hg gD FD.kp bD (a := a) (ns := ns) (k := k) rfl rfl (sl_ex x2 hS) fun u J2 l s c nu ex eu => ?_)
    have dk1 : DOk ⟨some u, []⟩ J2 := ⟨fun b e => by cases e; exact ⟨l, s, c, eu⟩, fun b m => nomatch m⟩
    have kp : ∀ H3, Go ⟨some u, []⟩ J2 H3 → ∀ b o, J b = some o → H3 b = some o := fun H3 g b o e => g.ex b o (fun z => by
      cases z
      have := x2 _ _ e
      rw [nu] at this
      cases this) (ex b o (x2 b o e))
    -- signs
    refine ss_cons (s_set (α := PyData) (P := fun d => ∃ ss : List Str, d = .list (ss.map .str) ∧ ss.length = 5 ∧ ∀ t ∈ ss, t.length = 1) 3 dk1 (JE.imp (P := fun r : PyData => ∃ ds, ds = [] ∧ resSigns ds r) ?_ fun r ⟨_, _, h⟩ => h) scLaw.nd fun sv H2 d g2 ⟨ss, ed, h5, h1⟩ r2 => ?_)
    · exact j_fd GS hr hg gS FS.kp bS 2 rfl rfl a_nil fun ds h => h
    subst ed
    -- for text in ..
    refine ss_cons (s_forL (P := fewT 4000 3130) 4 g2.dk .never rfl scLaw.nd ?_
      (fun H1 _ k' σ' H' => Go ⟨some u, []⟩ H1 H' ∧ ∃ o4 : Option V, σ' = [some (.ref a), some (.int (k : Int)), some (.ref u), some sv, o4, o5, o6])
      (fun H1 ds g3 _ => ⟨.refl g3.dk, o4, rfl⟩) (fun H1 ds k' σ' H' _ z => z.1) (fun H1 ds k' d v σ' H' g3 hds ek ⟨g4, o4', eσ⟩ rv => ?_) (fun H1 ds σ' H' g3 _ ⟨g4, o4', eσ⟩ => ?_))
    · refine JE.imp (P := fun d : PyData => ∃ ds es, fewT 4 3125 ds ∧ fewT 4000 5 es ∧ d = .list (ds ++ es)) (j_cat ?_ ?_ ?_) ?_
      · refine JE.imp (P := fun r : PyData => ∃ ds, qTexts ss ds ∧ resTexts ds r) ?_ ?_
        · refine j_fn GX hr hg gX FX.kp bX (a_2 (j_sortSet (x1 := ⟨0, 0, 0, 0⟩) (A := fun xs => xs = ss) rfl T.sorted T.set ?_ ?_) v_int) (qTexts_pre h5 h1)
          · exact JE.imp (P := fun d : PyData => d = .list (ss.map .str)) (v_var (a := PyData.list (ss.map .str)) 3 rfl r2) fun d e => ⟨ss, rfl, e⟩
          · rintro xs rfl
            rw [h5]
            decide
        · rintro r ⟨ds, _, ts, rfl, l1, l2⟩
          exact ⟨_, ⟨ts, rfl, l1, l2⟩, rfl⟩
      · refine JE.imp (P := fun r : PyData => ∃ ds, (∃ x : PyData, x = .list (ss.map .str) ∧ ds = [enc x]) ∧ resLong ds r) ?_ ?_
        · exact j_fd GL hr hg gL FL.kp bL 2 rfl rfl (a_1 (v_var (a := PyData.list (ss.map .str)) 3 rfl r2)) fun ds ⟨x, ex, ed⟩ => ⟨ss, by rw [ed, ex]; rfl, h5, h1⟩
        · rintro r ⟨ds, _, ts, rfl, l1, l2⟩
          exact ⟨_, ⟨ts, rfl, l1, l2⟩, rfl⟩
      · rintro ds es ⟨ts, rfl, l1, _⟩ ⟨us, rfl, l2, _⟩
        rw [List.length_map, List.length_map]
        have : (3130 : Nat) ≤ sizeLine := by decide
        omega
      · rintro d ⟨ds, es, ⟨ts, rfl, l1, b1⟩, ⟨us, rfl, l2, b2⟩, rfl⟩
        refine ⟨_, ⟨ts ++ us, by rw [List.map_append], by rw [List.length_append]; omega, fun t ht => ?_⟩, rfl⟩
        rcases List.mem_append.mp ht with ht | ht
        · have := b1 t ht
          omega
        · exact b2 t ht
    · subst eσ
      obtain ⟨ts, rfl, _, bt⟩ := hds
      obtain ⟨t, ht, e⟩ := List.mem_map.mp (List.mem_of_getElem? ek)
      subst e
      have bt := bt t ht
      cases rv
      have rv : ∀ J1, Rep K (del ⟨some u, []⟩ J1) (.str t) (enc (PyData.str t)) := fun _ => .str t
      refine ss_cons (s_if g4.dk (t_cmp op_ne (v_repr hg hu (by rfl) T.repr (v_fn1 GT hr hg gT FT.kp bT (v_var (a := PyData.str t) 4 rfl (rv _)) ⟨_, rfl, fun x e => by cases e; omega⟩ (rT (.str t))) (shows_b3 _ _ _))
        (v_repr hg hu (by rfl) T.repr (v_fn1 GU hr hg gU FU.kp bU (v_var (a := PyData.str t) 4 rfl (rv _)) ⟨t, rfl, by omega⟩ (rT (.str t))) (shows_b3 _ _ _)) od_neS) (fun H5 g5 e => ?_) (fun H5 g5 e => ss_nil (ss_nil ⟨g4.trans g5, _, rfl⟩)))
      exfalso
      have e2 : (!decide (PyData.shown (told (.str t)) = PyData.shown (told (.str t)))) = true := e.symm
      rw [decide_eq_true rfl] at e2
      cases e2
    · subst eσ
      have g5 := g3.trans g4
      -- odd
      refine ss_cons (s_set (P := fun d : PyData => d = .list oddL) 5 g5.dk (v_list (a_consV v_none (a_consV (x := (0 : Int)) v_int (a_consV (x := (7 : Int)) v_int (a_consV v_bool (a_consV (v_tuple (a_consV v_str a_nil) (by show 1 ≤ sizeLine; decide)) (a_consV (v_list (a_consV v_str a_nil) (by show 1 ≤ sizeLine; decide))
        (a_consV (v_dict1 (k := .inr "a") pe_str fun _ _ _ _ => v_str) (a_consV (v_tuple a_nil (by show 0 ≤ sizeLine; decide)) (a_consV (x := (10 ^ 59 : Int)) (v_pow (x := 10) (y := 59) v_int v_int ⟨by decide, by decide, by decide⟩) (a_consV (v_tuple (a_consV v_str (a_consV v_str a_nil)) (by show 2 ≤ sizeLine; decide)) a_nil)))))))))) (by show 10 ≤ sizeLine; decide)) scLaw.nd fun ov H3 d g6 ed r3 => ?_)
      subst ed
      refine ss_cons (s_if g6.dk (t_cmp (x := PyData.list []) (y := PyData.list []) (op_neD hu) (JE.imp (P := fun d : PyData => ∃ ds, ds = oddL ∧ d = .list ((ds.filter noD).map fun d => d)) ?_ ?_) (v_list a_nil (by decide)) (od_neD (by decide +kernel) (by decide +kernel))) (fun H5 g7 e => ?_) (fun H5 g7 e => ss_nil (ss_nil ⟨kp _ (((g2.trans g5).trans g6).trans g7), _, _, _, _, _, _, rfl⟩)))
      · refine j_lc (P := fun ds => ds = oddL) (f := noD) (g := fun d => d) 6 rfl scLaw.nd (JE.imp (P := fun d : PyData => d = .list oddL) (v_var (a := PyData.list oddL) 5 rfl r3) fun d e => ⟨oddL, rfl, e⟩) (fun ds e => by rw [e]; show 10 ≤ sizeLine; decide) (blkOk_by (N := nLaw) (sc := defScope sLaw) (by decide +kernel))
          (fun ds d v J1 q1 eds md gs rd s2 J2 C cl fp => ?_) (fun ds d v J1 q1 _ md _ gs rd s2 J2 C cl fp => v_var (a := d) 6 rfl rd)
        subst eds
        obtain ⟨o1, o2⟩ := odd_no d md
        exact t_cmp (op_neD hu) (v_fn1 GT hr hg gT FT.kp bT (v_var (a := d) 6 rfl rd) ⟨d, rfl, fun x e => absurd e (o2 x)⟩ (rT d)) (v_list (r := [.bool false, .bool false, .bool false]) (a_consV (x := false) v_bool (a_consV (x := false) v_bool (a_consV (x := false) v_bool a_nil))) (by show 3 ≤ sizeLine; decide)) (od_neD (by rfl) (by rfl))
      · rintro d ⟨ds, rfl, rfl⟩
        have : oddL.filter noD = [] := by
          refine List.filter_eq_nil_iff.mpr fun d hd => ?_
          unfold noD
          rw [(odd_no d hd).1]
          decide +kernel
        rw [this]
        rfl
      · exfalso
        have e2 : (!PyData.eqv (.list []) (.list [])) = true := e.symm
        exact absurd e2 (by decide +kernel)
  · subst eσ
    have dk3 : DOk no H' := dok_none
    have big : (200001 : Nat) ≤ sizeLine := by decide
    refine ss_cons (s_if dk3 (P := fun b => b = false) ?_ (fun H5 g7 e => by cases e) (fun H5 g7 e => ?_))
    · refine JTV.to (x := !PyData.eqv (.list [.bool true, .bool true, .bool false]) (.list [.bool true, .bool true, .bool false])) ?_ (by decide +kernel)
      refine t_cmp (x := PyData.list [.bool true, .bool true, .bool false]) (y := PyData.list [.bool true, .bool true, .bool false]) (op_neD hu) (v_list (r := [.bool true, .bool true, .bool false]) (a_consV (x := true) ?_ (a_consV (x := true) ?_ (a_consV (x := false) ?_ a_nil))) (by show 3 ≤ sizeLine; decide)) (v_list (r := [.bool true, .bool true, .bool false]) (a_consV (x := true) v_bool (a_consV (x := true) v_bool (a_consV (x := false) v_bool a_nil))) (by show 3 ≤ sizeLine; decide)) (od_neD (by rfl) (by rfl))
      · refine JV.to (x := isTx (.str (repS "ab" 50000))) ?_ tx1
        refine v_fn1 GI hr hg gI FI.kp bI (u := repS "ab" 50000) (v_mulS (z := "ab") (n := 50000) v_str v_int (by decide) (by decide) (by show 100000 ≤ sizeLine; decide)) ⟨_, rfl, fun x e => ?_⟩ (rI _)
        cases e
        rw [repS_len]
        decide
      · refine JV.to (x := isTx (.str (repS "a" 99999 ++ ("z" : Str)))) ?_ tx2
        refine v_fn1 GI hr hg gI FI.kp bI (u := repS "a" 99999 ++ ("z" : Str)) (v_addS (v_mulS (z := "a") (n := 99999) v_str v_int (by decide) (by decide) (by show 99999 ≤ sizeLine; decide)) v_str (by rw [repS_len]; show 100000 ≤ sizeLine; decide)) ⟨_, rfl, fun x e => ?_⟩ (rI _)
        cases e
        rw [len_app, repS_len]
        decide
      · refine JV.to (x := isTx (.str (repS "b" 100001))) ?_ tx3
        refine v_fn1 GI hr hg gI FI.kp bI (u := repS "b" 100001) (v_mulS (z := "b") (n := 100001) v_str v_int (by decide) (by decide) (by show 100001 ≤ sizeLine; decide)) ⟨_, rfl, fun x e => ?_⟩ (rI _)
        cases e
        rw [repS_len]
        decide
    · obtain ⟨t1, ml⟩ := T.ml
      obtain ⟨t2, mt⟩ := T.mt
      refine ss_nil (ss_cons (s_ret (P := fun b : Bool => b = true) dok_none (JV.to (x := (PyData.eqv (.list [.int 8, .int 100000]) (.list [.int 8, .int 100000]) && true)) (v_and (v_cmp (x := PyData.list [.int 8, .int 100000]) (y := PyData.list [.int 8, .int 100000]) (op_eqD hu) (v_list (r := [.int 8, .int 100000]) (a_consV (x := (8 : Int)) (v_glob (a := (8 : Int)) (by rfl) ml (show RelV (.int 8) _ from ⟨t1, rfl⟩) (fun _ => .int 8)) (a_consV (x := (100000 : Int)) (v_glob (a := (100000 : Int)) (by rfl) mt (show RelV (.int 100000) _ from ⟨t2, rfl⟩) (fun _ => .int 100000)) a_nil)) (by show 2 ≤ sizeLine; decide)) (v_list (r := [.int 8, .int 100000]) (a_consV (x := (8 : Int)) v_int (a_consV (x := (100000 : Int)) v_int a_nil)) (by show 2 ≤ sizeLine; decide)) (od_eqD (by rfl) (by rfl)))
        (fun _ => v_one (JV.to (x := PyData.eqv (told (.str "")) (.list [.bool false, .bool false, .bool true])) (v_cmp (op_eqD hu) (v_fn1 GT hr hg gT FT.kp bT (u := ("" : Str)) v_str ⟨_, rfl, fun x e => by cases e; decide⟩ (rT (.str ""))) (v_list (r := [.bool false, .bool false, .bool true]) (a_consV (x := false) v_bool (a_consV (x := false) v_bool (a_consV (x := true) v_bool a_nil))) (by show 3 ≤ sizeLine; decide)) (od_eqD (by rfl) (by rfl))) (by decide +kernel)))) (by decide +kernel)) fun v H3 r g4 er r4 => ?_))
      rw [er] at r4
      cases rep_bool r4
      exact q H3
end
end K00
set_option Elab.async false
set_option linter.all false
set_option maxRecDepth 100000
set_option maxHeartbeats 4000000
set_option exponentiation.threshold 9000
namespace K00
open PySem PySem.Spec L2 Lp PyProof.Rows
theorem all_mk {l : PySem.W.OpenLaw} {w : World} {K : PySem.W.Frag} {h : Heap} {mg : Str → Option Value} {fa f0 f1 f2 f3 f4 f5 f6 f7 f8 f9 f10 f11 f12 f13 : Addr} (X : K.In h) (G : h.Ns mainGlobals mg) (hfa : mg "law" = some (.ref fa))
    {od0 an0 od1 an1 od2 an2 od3 an3 od4 an4 od5 an5 od6 an6 od7 an7 od8 an8 od9 an9 od10 an10 od11 an11 od12 an12 od13 an13 : Option Addr} {sl0 sl1 sl2 sl3 sl4 sl5 sl6 sl7 sl8 sl9 sl10 sl11 sl12 sl13 : Array (Option Value)} {oc0 kV0 dc0 pm0 cd0 ct0 oc1 kV1 dc1 pm1 cd1 ct1 oc2 kV2 dc2 pm2 cd2 ct2 oc3 kV3 dc3 pm3 cd3 ct3 oc4 kV4 dc4 pm4 cd4 ct4 oc5 kV5 dc5 pm5 cd5 ct5 oc6 kV6 dc6 pm6 cd6 ct6 oc7 kV7 dc7 pm7 cd7 ct7 oc8 kV8 dc8 pm8 cd8 ct8 oc9 kV9 dc9 pm9 cd9 ct9 oc10 kV10 dc10 pm10 cd10 ct10 oc11 kV11 dc11 pm11 cd11 ct11 oc12 kV12 dc12 pm12 cd12 ct12 oc13 kV13 dc13 pm13 cd13 ct13 : Value}
    (a0 : PySem.W.nsIn K mainGlobals "_law_dice" = some (some (.ref f0))) (l0 : K.lookup f0 = some ⟨oc0, od0, .func (PySem.W.fnOf "_law_dice" "_law_dice" (defArgs sDice) (defBody sDice) (defScope sDice) .none kV0 dc0 pm0 an0 cd0 ct0), sl0⟩) (c0 : PySem.W.codeIn K cd0 "_law_dice" = true) (k0 : PySem.W.keepIn K (.ref f0) = true)
    (a1 : PySem.W.nsIn K mainGlobals "_law_roll" = some (some (.ref f1))) (l1 : K.lookup f1 = some ⟨oc1, od1, .func (PySem.W.fnOf "_law_roll" "_law_roll" (defArgs sRoll) (defBody sRoll) (defScope sRoll) .none kV1 dc1 pm1 an1 cd1 ct1), sl1⟩) (c1 : PySem.W.codeIn K cd1 "_law_roll" = true) (k1 : PySem.W.keepIn K (.ref f1) = true)
    (a2 : PySem.W.nsIn K mainGlobals "_law_pick" = some (some (.ref f2))) (l2 : K.lookup f2 = some ⟨oc2, od2, .func (PySem.W.fnOf "_law_pick" "_law_pick" (defArgs sPick) (defBody sPick) (defScope sPick) .none kV2 dc2 pm2 an2 cd2 ct2), sl2⟩) (c2 : PySem.W.codeIn K cd2 "_law_pick" = true) (k2 : PySem.W.keepIn K (.ref f2) = true)
    (a3 : PySem.W.nsIn K mainGlobals "_law_texts" = some (some (.ref f3))) (l3 : K.lookup f3 = some ⟨oc3, od3, .func (PySem.W.fnOf "_law_texts" "_law_texts" (defArgs sTexts) (defBody sTexts) (defScope sTexts) .none kV3 dc3 pm3 an3 cd3 ct3), sl3⟩) (c3 : PySem.W.codeIn K cd3 "_law_texts" = true) (k3 : PySem.W.keepIn K (.ref f3) = true)
    (a4 : PySem.W.nsIn K mainGlobals "_law_longer" = some (some (.ref f4))) (l4 : K.lookup f4 = some ⟨oc4, od4, .func (PySem.W.fnOf "_law_longer" "_law_longer" (defArgs sLonger) (defBody sLonger) (defScope sLonger) .none kV4 dc4 pm4 an4 cd4 ct4), sl4⟩) (c4 : PySem.W.codeIn K cd4 "_law_longer" = true) (k4 : PySem.W.keepIn K (.ref f4) = true)
    (a5 : PySem.W.nsIn K mainGlobals "_law_signs" = some (some (.ref f5))) (l5 : K.lookup f5 = some ⟨oc5, od5, .func (PySem.W.fnOf "_law_signs" "_law_signs" (defArgs sSigns) (defBody sSigns) (defScope sSigns) .none kV5 dc5 pm5 an5 cd5 ct5), sl5⟩) (c5 : PySem.W.codeIn K cd5 "_law_signs" = true) (k5 : PySem.W.keepIn K (.ref f5) = true)
    (a6 : PySem.W.nsIn K mainGlobals "_law_told" = some (some (.ref f6))) (l6 : K.lookup f6 = some ⟨oc6, od6, .func (PySem.W.fnOf "_law_told" "_law_told" (defArgs sTold) (defBody sTold) (defScope sTold) .none kV6 dc6 pm6 an6 cd6 ct6), sl6⟩) (c6 : PySem.W.codeIn K cd6 "_law_told" = true) (k6 : PySem.W.keepIn K (.ref f6) = true)
    (a7 : PySem.W.nsIn K mainGlobals "_law_due" = some (some (.ref f7))) (l7 : K.lookup f7 = some ⟨oc7, od7, .func (PySem.W.fnOf "_law_due" "_law_due" (defArgs sDue) (defBody sDue) (defScope sDue) .none kV7 dc7 pm7 an7 cd7 ct7), sl7⟩) (c7 : PySem.W.codeIn K cd7 "_law_due" = true) (k7 : PySem.W.keepIn K (.ref f7) = true)
    (a8 : PySem.W.nsIn K mainGlobals "_law_long" = some (some (.ref f8))) (l8 : K.lookup f8 = some ⟨oc8, od8, .func (PySem.W.fnOf "_law_long" "_law_long" (defArgs sLong) (defBody sLong) (defScope sLong) .none kV8 dc8 pm8 an8 cd8 ct8), sl8⟩) (c8 : PySem.W.codeIn K cd8 "_law_long" = true) (k8 : PySem.W.keepIn K (.ref f8) = true)
    (a9 : PySem.W.nsIn K mainGlobals "_is_of_letters" = some (some (.ref f9))) (l9 : K.lookup f9 = some ⟨oc9, od9, .func (PySem.W.fnOf "_is_of_letters" "_is_of_letters" (defArgs sOf) (defBody sOf) (defScope sOf) .none kV9 dc9 pm9 an9 cd9 ct9), sl9⟩) (c9 : PySem.W.codeIn K cd9 "_is_of_letters" = true) (k9 : PySem.W.keepIn K (.ref f9) = true)
    (a10 : PySem.W.nsIn K mainGlobals "is_name" = some (some (.ref f10))) (l10 : K.lookup f10 = some ⟨oc10, od10, .func (PySem.W.fnOf "is_name" "is_name" (defArgs sName) (defBody sName) (defScope sName) .none kV10 dc10 pm10 an10 cd10 ct10), sl10⟩) (c10 : PySem.W.codeIn K cd10 "is_name" = true) (k10 : PySem.W.keepIn K (.ref f10) = true)
    (a11 : PySem.W.nsIn K mainGlobals "is_letter" = some (some (.ref f11))) (l11 : K.lookup f11 = some ⟨oc11, od11, .func (PySem.W.fnOf "is_letter" "is_letter" (defArgs sLetter) (defBody sLetter) (defScope sLetter) .none kV11 dc11 pm11 an11 cd11 ct11), sl11⟩) (c11 : PySem.W.codeIn K cd11 "is_letter" = true) (k11 : PySem.W.keepIn K (.ref f11) = true)
    (a12 : PySem.W.nsIn K mainGlobals "is_text" = some (some (.ref f12))) (l12 : K.lookup f12 = some ⟨oc12, od12, .func (PySem.W.fnOf "is_text" "is_text" (defArgs sText) (defBody sText) (defScope sText) .none kV12 dc12 pm12 an12 cd12 ct12), sl12⟩) (c12 : PySem.W.codeIn K cd12 "is_text" = true) (k12 : PySem.W.keepIn K (.ref f12) = true)
    (a13 : PySem.W.nsIn K mainGlobals "law" = some (some (.ref f13))) (l13 : K.lookup f13 = some ⟨oc13, od13, .func (PySem.W.fnOf "law" "law" (defArgs sLaw) (defBody sLaw) (defScope sLaw) .none kV13 dc13 pm13 an13 cd13 ct13), sl13⟩) (c13 : PySem.W.codeIn K cd13 "law" = true) (k13 : PySem.W.keepIn K (.ref f13) = true)
    (z0 : PySem.W.nsIn K mainGlobals "len" = some none)
    (z1 : PySem.W.nsIn K mainGlobals "int" = some none)
    (z2 : PySem.W.nsIn K mainGlobals "abs" = some none)
    (z3 : PySem.W.nsIn K mainGlobals "max" = some none)
    (z4 : PySem.W.nsIn K mainGlobals "min" = some none)
    (z5 : PySem.W.nsIn K mainGlobals "range" = some none)
    (z6 : PySem.W.nsIn K mainGlobals "isinstance" = some none)
    (z7 : PySem.W.nsIn K mainGlobals "str" = some none)
    (z8 : PySem.W.nsIn K mainGlobals "repr" = some none)
    (z9 : PySem.W.nsIn K mainGlobals "sorted" = some none)
    (z10 : PySem.W.nsIn K mainGlobals "set" = some none)
    {t0 : Tok} (m0 : PySem.W.nsIn K mainGlobals "MAX_LETTERS" = some (some (.int 8 t0)))
    {t1 : Tok} (m1 : PySem.W.nsIn K mainGlobals "MAX_TEXT" = some (some (.int 100000 t1)))
    {t2 : Tok} (m2 : PySem.W.nsIn K mainGlobals "LETTERS" = some (some (.str letS t2)))
    : ∃ fd : FuncData, (∀ (s : Shared) (v : Value), BindsTo s fd ⟨[v], []⟩ [("_law_script", v)]) ∧ ∀ base : Heap, K.In base → base.Ns mainGlobals mg → FnG l.prog w K mg base CX0 4 fa fd ["_law_script"] (spLaw K) := by
  have e := hfa.symm.trans (PySem.W.mg_of X G a13)
  cases e
  have F0 := fun_mk (st := sDice) l0 c0 k0
  have b0 := F0.binds (ps := ["_law_script", "_law_spot"]) fun _ _ _ _ _ _ us hl => match us, hl with | [_, _], _ => rfl
  have F1 := fun_mk (st := sRoll) l1 c1 k1
  have b1 := F1.binds (ps := ["_law_dice_here", "_law_total"]) fun _ _ _ _ _ _ us hl => match us, hl with | [_, _], _ => rfl
  have F2 := fun_mk (st := sPick) l2 c2 k2
  have b2 := F2.binds (ps := ["_law_dice_here", "_law_items"]) fun _ _ _ _ _ _ us hl => match us, hl with | [_, _], _ => rfl
  have F3 := fun_mk (st := sTexts) l3 c3 k3
  have b3 := F3.binds (ps := ["_law_letters", "_law_most"]) fun _ _ _ _ _ _ us hl => match us, hl with | [_, _], _ => rfl
  have F4 := fun_mk (st := sLonger) l4 c4 k4
  have b4 := F4.binds (ps := ["_law_texts_here", "_law_letters"]) fun _ _ _ _ _ _ us hl => match us, hl with | [_, _], _ => rfl
  have F5 := fun_mk (st := sSigns) l5 c5 k5
  have b5 := F5.binds (ps := ["_law_dice_here"]) fun _ _ _ _ _ _ us hl => match us, hl with | [_], _ => rfl
  have F6 := fun_mk (st := sTold) l6 c6 k6
  have b6 := F6.binds (ps := ["_law_text"]) fun _ _ _ _ _ _ us hl => match us, hl with | [_], _ => rfl
  have F7 := fun_mk (st := sDue) l7 c7 k7
  have b7 := F7.binds (ps := ["_law_text"]) fun _ _ _ _ _ _ us hl => match us, hl with | [_], _ => rfl
  have F8 := fun_mk (st := sLong) l8 c8 k8
  have b8 := F8.binds (ps := ["_law_dice_here", "_law_signs_here"]) fun _ _ _ _ _ _ us hl => match us, hl with | [_, _], _ => rfl
  have F9 := fun_mk (st := sOf) l9 c9 k9
  have b9 := F9.binds (ps := ["value"]) fun _ _ _ _ _ _ us hl => match us, hl with | [_], _ => rfl
  have F10 := fun_mk (st := sName) l10 c10 k10
  have b10 := F10.binds (ps := ["value"]) fun _ _ _ _ _ _ us hl => match us, hl with | [_], _ => rfl
  have F11 := fun_mk (st := sLetter) l11 c11 k11
  have b11 := F11.binds (ps := ["value"]) fun _ _ _ _ _ _ us hl => match us, hl with | [_], _ => rfl
  have F12 := fun_mk (st := sText) l12 c12 k12
  have b12 := F12.binds (ps := ["value"]) fun _ _ _ _ _ _ us hl => match us, hl with | [_], _ => rfl
  have F13 := fun_mk (st := sLaw) l13 c13 k13
  exact ⟨PySem.W.fnOf "law" "law" (defArgs sLaw) (defBody sLaw) (defScope sLaw) .none kV13 dc13 pm13 an13 cd13 ct13, fun s v => .of_eq rfl, fun base _ _ => ok_law F13 ⟨⟨PySem.W.mg_none_of X G z0, PySem.W.mg_none_of X G z1, PySem.W.mg_none_of X G z2, PySem.W.mg_none_of X G z3, PySem.W.mg_none_of X G z4, PySem.W.mg_none_of X G z5⟩, PySem.W.mg_none_of X G z6, PySem.W.mg_none_of X G z7, PySem.W.mg_none_of X G z8, PySem.W.mg_none_of X G z9, PySem.W.mg_none_of X G z10, ⟨_, PySem.W.mg_of X G m0⟩, ⟨_, PySem.W.mg_of X G m1⟩, ⟨_, PySem.W.mg_of X G m2⟩⟩ F0 b0 (PySem.W.mg_of X G a0) F1 b1 (PySem.W.mg_of X G a1) F2 b2 (PySem.W.mg_of X G a2) F3 b3 (PySem.W.mg_of X G a3) F4 b4 (PySem.W.mg_of X G a4) F5 b5 (PySem.W.mg_of X G a5) F6 b6 (PySem.W.mg_of X G a6) F7 b7 (PySem.W.mg_of X G a7) F8 b8 (PySem.W.mg_of X G a8) F9 b9 (PySem.W.mg_of X G a9) F10 b10 (PySem.W.mg_of X G a10) F11 b11 (PySem.W.mg_of X G a11) F12 b12 (PySem.W.mg_of X G a12)⟩
end K00
open PySem PySem.W PyProof.Rows
set_option maxHeartbeats 0 in
theorem PySem.Challenge.cw_lastprices_k00_whole_words_of_few_signs_holds : PySem.Challenge.rw_lastprices_k00_whole_words_of_few_signs.Holds := by
  w_on; o_law; k_head; (case hw => w_witness2)
  k_fill
  refine Lp.walkG (l := PySem.Challenge.rw_lastprices_k00_whole_words_of_few_signs) (n := 63) (k := 4) (x := "_law_script") (CX := fun _ => L2.CX0) (sp := fun w => K00.spLaw _) rfl (by decide) rfl ⟨rfl, by decide, by decide⟩ (fun w h Y => PySem.W.kIn_of Y) ?F (fun _ _ a ns hl _ hS => ⟨a, ns, rfl, hS, hl, fun _ => rfl⟩) (fun _ _ _ _ _ h => h)
  case F =>
    intro w mg fa h KX G hmg
    refine' K00.all_mk KX G hmg ?a0 ?l0 ?c0 ?k0 ?a1 ?l1 ?c1 ?k1 ?a2 ?l2 ?c2 ?k2 ?a3 ?l3 ?c3 ?k3 ?a4 ?l4 ?c4 ?k4 ?a5 ?l5 ?c5 ?k5 ?a6 ?l6 ?c6 ?k6 ?a7 ?l7 ?c7 ?k7 ?a8 ?l8 ?c8 ?k8 ?a9 ?l9 ?c9 ?k9 ?a10 ?l10 ?c10 ?k10 ?a11 ?l11 ?c11 ?k11 ?a12 ?l12 ?c12 ?k12 ?a13 ?l13 ?c13 ?k13 ?z0 ?z1 ?z2 ?z3 ?z4 ?z5 ?z6 ?z7 ?z8 ?z9 ?z10 ?m0 ?m1 ?m2
    (case a0 => k_is)
    (case l0 => k_is)
    (case c0 => k_is)
    (case k0 => k_is)
    (case a1 => k_is)
    (case l1 => k_is)
    (case c1 => k_is)
    (case k1 => k_is)
    (case a2 => k_is)
    (case l2 => k_is)
    (case c2 => k_is)
    (case k2 => k_is)
    (case a3 => k_is)
    (case l3 => k_is)
    (case c3 => k_is)
    (case k3 => k_is)
    (case a4 => k_is)
    (case l4 => k_is)
    (case c4 => k_is)
    (case k4 => k_is)
    (case a5 => k_is)
    (case l5 => k_is)
    (case c5 => k_is)
    (case k5 => k_is)
    (case a6 => k_is)
    (case l6 => k_is)
    (case c6 => k_is)
    (case k6 => k_is)
    (case a7 => k_is)
    (case l7 => k_is)
    (case c7 => k_is)
    (case k7 => k_is)
    (case a8 => k_is)
    (case l8 => k_is)
    (case c8 => k_is)
    (case k8 => k_is)
    (case a9 => k_is)
    (case l9 => k_is)
    (case c9 => k_is)
    (case k9 => k_is)
    (case a10 => k_is)
    (case l10 => k_is)
    (case c10 => k_is)
    (case k10 => k_is)
    (case a11 => k_is)
    (case l11 => k_is)
    (case c11 => k_is)
    (case k11 => k_is)
    (case a12 => k_is)
    (case l12 => k_is)
    (case c12 => k_is)
    (case k12 => k_is)
    (case a13 => k_is)
    (case l13 => k_is)
    (case c13 => k_is)
    (case k13 => k_is)
    (case z0 => k_is)
    (case z1 => k_is)
    (case z2 => k_is)
    (case z3 => k_is)
    (case z4 => k_is)
    (case z5 => k_is)
    (case z6 => k_is)
    (case z7 => k_is)
    (case z8 => k_is)
    (case z9 => k_is)
    (case z10 => k_is)
    (case m0 => k_is)
    (case m1 => k_is)
    (case m2 => k_is)

