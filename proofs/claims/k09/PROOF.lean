import PyProof.Rows.All
import Wide.All
import OpenK.AllK
import Wide.FinOn
import HandS.ForMost
import HandS.Codes
import HandS.Evl
import HandS.DictComp
import HandS.SetKeys
import HandS.TupAny
import HandS.TupMul
import HandS.IsInst
import HandS.Flow
import HandS.Lambda
import PyProof.ReprRoads
import HandS.Walk
import HandS.StrMore
import HandS.Call
import HandS.Style
import HandS.RaiseMore
import KE.KExcIs
import HandS.Exc
import HandS.ExcIs
import HandS.ExcField
import KE.KExcSuper
import HandS.ExcInit
import HandS.FStrTup
import HandS.ExcOwn
import PyProof.Rows.StrMul
import PyProof.Rows.StrJoinRep
import PyProof.ReprText
import KE.KNestM
import HandS.EndTab
import PySem.Challenge.RW_keptlines_k09_lasting_by_hand
set_option Elab.async false
set_option maxRecDepth 100000
set_option maxHeartbeats 4000000
/-! Calls that know that nothing is being shown (repr), the law's own call, repr of data. -/
namespace KL
open PySem PySem.Spec PyProof.Rows L2 SX
/-- a def of the module that is called while no repr is under way -/
structure CalG (P : Program) (w : World) (K : PySem.W.Frag) (mg : Str → Option Value) (base : Heap) (k : Nat) (x : Str) (sp : Sp) : Prop where
  ex : ∃ (f : Addr) (fd : FuncData) (ps : List Str), (∀ vs H Q E, sp vs H Q E → vs.length = ps.length) ∧
    (∀ (A : Around) (outer : List Env) (s : Shared) (H : Hp) (args : Args) (us : List Value) (vs : List V) (Q : VK) (E : XK), A.guards = some [] → Room k A →
      Env0 P w K mg base A outer s H → BindsTo s fd args (ps.zip us) → Vals vs us → sp vs H Q E → codeAny (model P w) A (.call (.ref f) args) (CR C8.CX0 outer P w H s Q E) s) ∧
    mg x = some (.ref f) ∧ PySem.W.keepIn K (.ref f) = true ∧ Binds K fd ps []
section
variable {P : Program} {w : World} {K : PySem.W.Frag} {mg : Str → Option Value} {base : Heap}
theorem calg {x : Str} {st : Stmt} {f : Addr} {fd : FuncData} {N ps : List Str} {k : Nat} {sp : Sp} (F : C8.Def K mg x st f fd) (b : Binds K fd ps []) (S : FnScope N ps (C8.fnScope st))
    (lens : ∀ vs H Q E, sp vs H Q E → vs.length = ps.length)
    (body : ∀ (cdv : Value) (A : Around) (outer : List Env) (s : Shared) (H : Hp) (vs : List V) (Q : VK) (E : XK), A.guards = some [] → Room k (A.deeper (envOfC x (C8.fnScope st) s.heap.objs.size f cdv)) → sp vs H Q E →
      ∃ t, PSs (cxOf C8.CX0 P w K mg base N x (C8.fnScope st) f cdv A outer s H E).nox (C8.fnBody st) t ∧ t { nx := fun _ H' => Q .non H', rt := Q } (start N vs) H) :
    CalG P w K mg base (k + 1) x sp := by
  obtain ⟨oc, od, dV, kV, doc, pm, an, cdv, ct, osl, efd, hlk, hcd⟩ := F.fn.ex
  subst efd
  refine ⟨f, _, ps, lens, ?_, F.mgf, F.kp, b⟩
  intro A outer s H args us vs Q E gd room e0 bd rel want
  refine LamX.run_ofS (N := N) hlk hcd S room e0 bd rel (lens _ _ _ _ want) fun room' => ?_
  obtain ⟨t, ht, hq⟩ := body cdv A outer s H vs Q E gd room' want
  exact ⟨t, ht.nox, hq⟩
end
section
variable {X : Cx} {k j : Nat} {x : Str} {sp : Sp} {p pos : Pos} {e : Expr} {es : List Expr} {t : TA}
theorem pe_g (c : CalG X.prog X.w X.K X.mg X.base k x sp) (gd : X.A.guards = some []) (hr : Room j X.A) (hk : k ≤ j) (hg : Gl X x) (ha : PA X (e :: es) t)
    (ndb : (x == ("__debug__" : Str)) = false := by decide) (he : starEach (e :: es) X.env = (false, eval e X.env) :: starEach es X.env := by rfl) (hpl : (backTo pos (starEach es X.env)).any (·.1) = false := by rfl) :
    PE X (.Call (.Name x p) (e :: es) [] pos) (tCall sp [] C8.E0 t) := by
  obtain ⟨f, fd, ps, hlen, run, hm, kp, b⟩ := c.ex
  refine ⟨fun pins s σ H Q inv want => ?_⟩
  refine wpAny_Call_Name_kw (ld_glob inv hg hm ?_ ndb)
  refine PySem.W.callWith_K (h₀ := X.base) inv.ok.mod.kin kp (thn (ha.run pos pins s σ H _ inv want) fun us s1 ⟨vs, H1, inv1, rel, q⟩ => ⟨inv1.kIn, ?_⟩) he hpl
  have q1 : sp vs H1 Q C8.E0 := by
    have z : sp (vs ++ []) H1 Q C8.E0 := q
    rwa [List.append_nil] at z
  have ln : us.length = ps.length := by rw [← rel.length]; exact hlen _ _ _ _ q1
  have bd := b s1 us inv1.kIn (by rw [List.append_nil]; exact ln)
  rw [List.append_nil] at bd
  refine wpAny_call (codeAny_mono (run X.A X.stack s1 H1 ⟨us, []⟩ us vs Q C8.E0 gd (hr.mono hk) inv1.env0 bd rel q1) fun r s' got => ?_)
  cases r with
  | error ex => exact (show False from got).elim
  | ok fl => cases fl with
    | ret u => exact inv1.after got
    | next => exact (show False from got).elim
    | brk => exact (show False from got).elim
    | cont => exact (show False from got).elim
end
/-! ### the law's call -/
section
variable {P : Program} {w : World} {K : PySem.W.Frag} {mg mb : Str → Option Value} {k : Nat} {sp : Sp} {fa a : Addr} {s1 : Shared} {vs : List Value} {ns : List Int}
/-- what may be tracked at the start: the script, locked -/
theorem lawg (KX : K.In s1.heap) (hns : s1.heap.Ns mainGlobals mg) (hb : s1.heap.Ns builtinsNs mb) (hbb : ∀ x : Str, x ≠ "__name__" → mb x = bootBuiltins x) (lim : s1.heap.NoLimit) (gens : s1.gens = #[])
    (ha : s1.heap.get? a = some { cls := .type "list", data := .seq vs.toArray }) (hi : IntsAre vs ns) (hl : ns.length ≤ sizeLine) (room : Room k callerA) (hfa : mg "law" = some (.ref fa))
    (F : ∀ base : Heap, K.In base → base.Ns mainGlobals mg → CalG P w K mg base k "law" sp)
    (want : ∀ H : Hp, SqL K H a (ns.map V.int) → sp [.ref a] H (fun v _ => v = .bl true) C8.E0) :
    codeAny (model P w) callerA (.call (.ref fa) ⟨[.ref a], []⟩) (fun r s' => r = .ok (.ret (.bool true)) ∧ OldK s1.heap s'.heap ∧ s'.os = s1.os ∧ AllBare s'.gens) s1 := by
  have rel := vals_ints hi
  have go : ∀ H : Hp, (∀ b, H b = none ∨ (b = a ∧ ∃ o xs, H b = some (.frz o (.lst xs)))) → SqL K H a (ns.map V.int) → HOk P w H s1.heap → (H a ≠ none → K.lookup a = none) →
      codeAny (model P w) callerA (.call (.ref fa) ⟨[.ref a], []⟩) (fun r s' => r = .ok (.ret (.bool true)) ∧ OldK s1.heap s'.heap ∧ s'.os = s1.os ∧ AllBare s'.gens) s1 := by
    intro H only sq hok apart
    have alone : ∀ b u, H b = some u → b = a := fun b u q => by
      rcases only b with z | ⟨z, _⟩
      · rw [z] at q; cases q
      · exact z
    have dictFree : ∀ {b : Addr} {o : Obj} {es : Array DictEntry} {ep : Nat}, s1.heap.get? b = some o → o.data = .dict es ep → H b = none := by
      intro b o es ep g d
      cases q : H b with
      | none => rfl
      | some u =>
        have z := alone b u q
        subst z
        rw [ha] at g
        cases g
        exact absurd d (by intro z; cases z)
    have nsOf : ∀ {b : Addr} {m : Str → Option Value}, s1.heap.Ns b m → (hidT s1.heap H).Ns b m := fun {b m} ⟨o, es, ep, g, d, r⟩ => ⟨o, es, ep, hidT_get g (dictFree g d), d, r⟩
    have kin : K.In (hidT s1.heap H) := by
      intro b o look
      refine hidT_get (KX b o look) ?_
      cases q : H b with
      | none => rfl
      | some u =>
        have z := alone b u q
        subst z
        rw [apart (by rw [q]; simp)] at look
        cases look
    have e0 : Env0 P w K mg (hidT s1.heap H) callerA [] s1 H :=
      { frames := rfl
        mod := ⟨kin, nsOf hns, ⟨mb, nsOf hb, hbb⟩, by obtain ⟨mc, y1, y2⟩ := lim; exact ⟨mc, nsOf y1, y2⟩⟩
        bs := fun b o g => of_hidT g
        bsz := Nat.le_of_eq (hidT_size _ _)
        funs := trivial
        frf := fun b z => nomatch (show b ∈ ([] : List Addr) from z)
        hok := hok
        bare := .of_eq gens }
    obtain ⟨f, fd, ps, hlen, run, hm, kp, b⟩ := (F _ kin (nsOf hns)).ex
    rw [hfa] at hm
    cases hm
    have hw := want H sq
    have one : ps.length = 1 := (hlen _ _ _ _ hw).symm
    obtain ⟨p0, rfl⟩ : ∃ p0, ps = [p0] := by
      match ps, one with
      | [p0], _ => exact ⟨p0, rfl⟩
    have bd := b s1 [.ref a] KX rfl
    refine codeAny_mono (run callerA [] s1 H ⟨[.ref a], []⟩ [.ref a] [.ref a] _ _ rfl room e0 bd (.cons rfl .nil) hw) fun r s' got => ?_
    cases r with
    | error e => exact (show False from got).elim
    | ok fl => cases fl with
      | next => exact (show False from got).elim
      | brk => exact (show False from got).elim
      | cont => exact (show False from got).elim
      | ret u =>
        obtain ⟨v, H', os, bare, un, hok', rv, ev⟩ := got
        have ev : v = .bl true := ev
        subst ev
        cases (show u = Value.bool true from rv)
        refine ⟨rfl, OldK.of_keep fun b o g => ?_, os, bare⟩
        rcases only b with z | ⟨_, ob, xs, z⟩
        · exact un.keep b o g z (fun q => nomatch (show b ∈ ([] : List Addr) from q)) (fun q => nomatch q)
        · obtain ⟨g1, _⟩ := hok b _ z
          obtain ⟨g2, _⟩ := hok' b _ (un.frzs b ob _ z)
          rw [g] at g1
          cases g1
          exact g2
  cases hk : K.lookup a with
  | some o =>
    have g := KX a o hk
    rw [ha] at g
    cases g
    refine go (fun _ => none) (fun _ => .inl rfl) (.inr ⟨_, vs.toArray, _, hk, rfl, rfl, rfl, ?_, by simpa using rel⟩) (fun b u z => nomatch z) fun z => absurd rfl z
    rw [List.size_toArray]
    rw [hi.length]
    exact hl
  | none =>
    refine go (fun b => if b = a then some (.frz { cls := .type "list", data := .seq vs.toArray } (.lst (ns.map V.int))) else none) (fun b => ?_) (.inl (.inr ⟨_, if_pos rfl⟩)) (fun b u z => ?_) fun _ => hk
    · by_cases eb : b = a
      · exact .inr ⟨eb, _, _, if_pos eb⟩
      · exact .inl (if_neg eb)
    · by_cases eb : b = a
      · have z1 := (if_pos eb).symm.trans z
        cases z1
        subst eb
        exact ⟨ha, by rw [List.length_map]; exact hl, vs, _, rel, ha⟩
      · have z1 := (if_neg eb).symm.trans z
        cases z1
end
/-- what k_head leaves, from the law's promise -/
theorem walkg {l : PySem.W.OpenLaw} {n k : Nat} {q : Program} {loose : List Str} {XP : (Str → Option Value) → Heap → Prop} {YP : World → Heap → Prop} {d : DefRec} {K : Params → PySem.W.Frag} {sp : PySem.W.Frag → Sp}
    (hn : l.most = some n) (hn2 : n ≤ sizeLine) (hdf : d.params.defaults = []) (hname : d.name = ("law" : Str)) (room : Room k callerA) (hY : ∀ (w : World) (h : Heap), YP w h → (K w.params).In h)
    (F : ∀ (w : World) (mg : Str → Option Value) (h : Heap), (K w.params).In h → h.Ns mainGlobals mg → ∀ base : Heap, (K w.params).In base → base.Ns mainGlobals mg → CalG l.prog w (K w.params) mg base k "law" (sp (K w.params)))
    (want : ∀ (K : PySem.W.Frag) (H : Hp) (a : Addr) (ns : List Int), ns.length ≤ n → SqL K H a (ns.map V.int) → sp K [.ref a] H (fun v _ => v = .bl true) C8.E0) :
    PySem.W.WalkO q loose XP YP l.row.toRowW d [] (fun g us => PySem.call g us) := by
  refine Att.attach_call hn hdf ?_
  intro w s0 s1 mg mb fa o pm cd doc a vs ns G Y ho hd hcd hmg hobj hints hlen hgen
  have kin := hY w _ Y
  rw [hname] at hmg
  exact lawg kin G.T.g G.T.b G.T.builtins G.T.nolimit hgen hobj hints (Nat.le_trans hlen hn2) room hmg (F w mg _ kin G.T.g) fun H sq => want _ H a ns hlen sq
/-! ### repr of data -/
section
variable {X : Cx}
def rRep (K : PySem.W.Frag) : List V → Hp → VK → Prop := fun xs H Q => ∃ (a : Addr) (d : PyData), xs = [.ref a] ∧ Dp K H (.ref a) d ∧ d.showable = true ∧ d.depth ≤ 60 ∧ d.hasDict = false ∧ d.shown.length ≤ sizeLine ∧ Q (.str d.shown) H
theorem call_rep {k : Nat} (gd : X.A.guards = some []) (hr : Room k X.A) : CallR X (.builtin "repr") (rRep X.K) := by
  intro pins s σ H xs us Q inv rel h
  obtain ⟨a, d, rfl, dp, hs, hd, nd, hz, q⟩ := h
  obtain ⟨u, rfl, ru⟩ := vals1 rel
  obtain ⟨as, rd⟩ := Dp.reads inv d _ u dp ru
  have eu : u = Value.ref a := ru
  cases eu
  have un := hr.un
  exact repr_of_reads' rd hs (fun z => absurd z (by rw [nd]; simp)) gd (by omega) (fun _ _ z => z) (fun h' u tk kp => ⟨.str d.shown, H, inv.kept kp, ⟨u, rfl⟩, q⟩) hz
end
end KL

set_option Elab.async false
set_option maxRecDepth 100000
set_option maxHeartbeats 4000000
/-! Promises of the law's own drawing. -/
namespace KL
open PySem PySem.Spec PyProof.Rows L2 SX Evl
/-- the builtins' names are not the module's -/
structure Blt (mg : Str → Option Value) : Prop where
  int_ : mg "int" = none
  len_ : mg "len" = none
  list_ : mg "list" = none
  tuple_ : mg "tuple" = none
  range_ : mg "range" = none
  enumerate_ : mg "enumerate" = none
  isinstance_ : mg "isinstance" = none
  all_ : mg "all" = none
  any_ : mg "any" = none
  max_ : mg "max" = none
  repr_ : mg "repr" = none
  str_ : mg "str" = none
  bool_ : mg "bool" = none
def spMixed : Sp := fun vs H Q _ => ∃ c k : Int, vs = [.int c, .int k] ∧ 0 ≤ k ∧ k < 100000000 ∧ ∀ (r : Int) (H' : Hp), 0 ≤ r → r < 2147483629 → Ex H H' → Q (.int r) H'
/-- the law's state: its cells, what is left of them, how many draws there were -/
abbrev stK (dC dL : Addr) (n : Int) : List (Key × V) := [(Sum.inr "cells", .ref dC), (Sum.inr "lefts", .ref dL), (Sum.inr "at", .int n), (Sum.inr "room", .int 0)]
abbrev stO (dC dL : Addr) (n : Int) : HO := .dK (stK dC dL n)
structure StAt (H : Hp) (st dL : Addr) (n : Int) : Prop where
  ex : ∃ (dC : Addr) (cs ls : List Int), H st = some (stO dC dL n) ∧ H dC = some (.lst (cs.map V.int)) ∧ H dL = some (.lst (ls.map V.int)) ∧ dC ≠ dL ∧ ls.length = cs.length ∧ 0 < cs.length ∧ cs.length ≤ 100
  n0 : 0 ≤ n
/-- only the state has changed -/
def Chg (st dL : Addr) (H H' : Hp) : Prop := ∀ b o, H b = some o → b ≠ st → b ≠ dL → H' b = some o
def spBegin (K : PySem.W.Frag) : Sp := fun vs H Q _ => ∃ (a : Addr) (ns : List Int), vs = [.ref a] ∧ SqL K H a (ns.map V.int) ∧ ns.length ≤ 63 ∧ ∀ (st dL : Addr) (H' : Hp), StAt H' st dL 0 → Ex H H' → H st = none → H dL = none → Q (.ref st) H'
def spDraw : Sp := fun vs H Q _ => ∃ (st dL : Addr) (n m : Int), vs = [.ref st, .int m] ∧ StAt H st dL n ∧ n < 1000000 ∧ 0 < m ∧ m < 1000000 ∧
  ∀ (r : Int) (H' : Hp), 0 ≤ r → r < m → StAt H' st dL (n + 1) → Chg st dL H H' → Q (.int r) H'
theorem valV_cons {κ : Type} [DecidableEq κ] {k' k : κ} {v : V} {r : List (κ × V)} : valV ((k', v) :: r) k = if k' = k then some v else valV r k := by
  unfold valV
  rw [List.find?_cons]
  by_cases h : k' = k
  · rw [if_pos h]
    simp [h]
  · rw [if_neg h]
    simp [h]
theorem putK_cons {κ : Type} [DecidableEq κ] {k' k : κ} {v' v : V} {r : List (κ × V)} (h : ¬ k' = k) (hr : (r.any fun kv => decide (kv.1 = k)) = true) : putK ((k', v') :: r) k v = (k', v') :: putK r k v := by
  unfold putK
  rw [List.any_cons, hr, Bool.or_true, if_pos rfl, if_pos rfl, List.map_cons, if_neg h]
theorem st_cells (dC dL : Addr) (n : Int) : valV (stK dC dL n) (Sum.inr "cells" : Key) = some (.ref dC) := by
  rw [valV_cons, if_pos rfl]
theorem st_lefts (dC dL : Addr) (n : Int) : valV (stK dC dL n) (Sum.inr "lefts" : Key) = some (.ref dL) := by
  rw [valV_cons, if_neg (by decide +kernel), valV_cons, if_pos rfl]
theorem st_at (dC dL : Addr) (n : Int) : valV (stK dC dL n) (Sum.inr "at" : Key) = some (.int n) := by
  rw [valV_cons, if_neg (by decide +kernel), valV_cons, if_neg (by decide +kernel), valV_cons, if_pos rfl]
theorem st_put (dC dL : Addr) (n m : Int) : putK (stK dC dL n) (Sum.inr "at" : Key) (.int m) =
    stK dC dL m := by
  have h1 : ¬ ((Sum.inr "cells" : Key) = (Sum.inr "at" : Key)) := by decide +kernel
  have h2 : ¬ ((Sum.inr "lefts" : Key) = (Sum.inr "at" : Key)) := by decide +kernel
  have h3 : ¬ ((Sum.inr "room" : Key) = (Sum.inr "at" : Key)) := by decide +kernel
  unfold putK
  simp [h1, h2, h3]
theorem fmod_bounds (a b : Int) (hb : 0 < b) : 0 ≤ a.fmod b ∧ a.fmod b < b := ⟨Int.fmod_nonneg_of_pos a hb, Int.fmod_lt_of_pos a hb⟩
theorem nz {i j : Int} (h : j ≠ 0) : (fun (_ : Int) (j : Int) => j ≠ 0) i j := h
theorem dp_ints (K : PySem.W.Frag) (H : Hp) : ∀ ns : List Int, DpAll K H (ns.map V.int) (ns.map PyData.int)
  | [] => .nil
  | n :: ns => .cons (.int n) (dp_ints K H ns)
theorem lay_ints : ∀ ns : List Int, PyData.canLayAll0 (ns.map PyData.int) = true
  | [] => by
    simp [PyData.canLayAll0]
  | n :: ns => by simp [PyData.canLayAll0, PyData.canLay0, lay_ints ns]
theorem depth_ints : ∀ ns : List Int, PyData.depthAll (ns.map PyData.int) = 0
  | [] => by
    simp [PyData.depthAll]
  | n :: ns => by simp [PyData.depthAll, PyData.depth, depth_ints ns]
theorem shaped_ints {ns : List Int} (h : ns.length ≤ 100) : SeqAt.shaped (.list (ns.map PyData.int)) = true := by
  unfold SeqAt.shaped
  have e : PyData.depth (.list (ns.map PyData.int)) = 1 := by rw [PyData.depth, depth_ints]
  rw [e]
  have l : ns.length ≤ sizeLine := Nat.le_trans h (by decide)
  simp [PyData.canLay0, lay_ints, l]
theorem eqv_ints_nil : ∀ ns : List Int, PyData.eqv (.list (ns.map PyData.int)) (.list []) = ns.isEmpty
  | [] => by simp [PyData.eqv, PyData.eqvAll]
  | n :: ns => by simp [PyData.eqv, PyData.eqvAll]
theorem shaped_nil : SeqAt.shaped (.list []) = true := by decide +kernel
end KL

set_option Elab.async false
set_option maxRecDepth 100000
set_option maxHeartbeats 4000000
/-! Comprehensions whose elements leave all that was tracked as it was. -/
namespace KL
open PySem PySem.Spec PyProof.Rows L2 SX Evl
section
variable {J : It} {n : Nat} {G : Hp → Prop} {Y : Nat → Hp → V → Hp → Prop} {α : Type}
/-- [F y for y in ys if p y] -/
theorem lc_ys (w : Walk J n G Y) {g : TG} {tt : TT} {te : TE} {vs : List Nat} {σ : L2.St} {H1 : Hp} {D : Addr} {Qd : Hp → Prop} (ys : List α) (hn : n = ys.length) (hz : n ≤ 100000) (p : α → Bool) (F : α → V) (nD : H1 D = none)
    (hG : ∀ H, Ex H1 H → G H)
    (hs : ∀ i (y : α) x H H', ys[i]? = some y → Ex H1 H → Y i H x H' → ∀ (Z : V → Hp → Prop) (N : Hp → Prop), (∀ H4, Ex H H4 → p y = true → Z (F y) H4) → (∀ H3, Ex H H3 → p y = false → N H3) →
      g x (wipe σ vs) H' fun σ2 H2 => wipe σ2 vs = wipe σ vs ∧ tt σ2 H2 fun b H3 => if b = true then te σ2 H3 Z else N H3)
    (hd : ∀ H, Ex H1 H → H D = some (.lst ((ys.filter p).map F)) → Qd H) :
    ∃ Wk : Nat → Nat → Hp → Prop, (∃ r, Wk 0 r (upd H1 D (.lst []))) ∧ ∀ j r Hc, Wk j r Hc →
      (J.stop j Hc ∧ Qd Hc) ∨ (J.go j Hc ∧ ∃ After : Hp → Prop, (∀ Hd, After Hd → ∃ r', r' < r ∧ Wk (j + 1) r' Hd) ∧ ∀ x H', J.yld j Hc x H' → g x (wipe σ vs) H' fun σ2 H2 => wipe σ2 vs = wipe σ vs ∧ tt σ2 H2 fun b H3 =>
        if b = true then te σ2 H3 fun y H4 => ∃ had, H4 D = some (.lst had) ∧ had.length < sizeLine ∧ After (upd H4 D (.lst (had ++ [y]))) else After H3) := by
  refine lc_it w (fun i H => Ex H1 H ∧ H D = some (.lst (((ys.take i).filter p).map F))) ⟨Ex.new nD, by rw [upd_same]; rfl⟩ (fun i H _ h => hG H h.1) ?_ ?_
  · rintro i x H H' hi ⟨ex, hD⟩ hy
    have hi' : i < ys.length := by omega
    have ey : ys[i]? = some ys[i] := List.getElem?_eq_getElem hi'
    have tk : ys.take (i + 1) = ys.take i ++ [ys[i]] := by rw [List.take_add_one, ey]; rfl
    refine hs i ys[i] x H H' ey ex hy _ _ (fun H4 e4 hp => ?_) fun H3 e3 hp => ?_
    · refine ⟨_, e4 _ _ hD, ?_, ?_, ?_⟩
      · have h1 : (((ys.take i).filter p).map F).length ≤ i := by
          rw [List.length_map]
          exact Nat.le_trans (List.length_filter_le _ _) (by rw [List.length_take]; omega)
        exact Nat.lt_of_le_of_lt h1 (sz_lt (by omega))
      · exact Ex.mut (ex.trans e4) nD
      · rw [upd_same, tk, List.filter_append, List.map_append]
        simp [hp]
    · refine ⟨ex.trans e3, ?_⟩
      rw [e3 _ _ hD, tk, List.filter_append, List.map_append]
      simp [hp]
  · rintro H ⟨ex, hD⟩
    refine hd H ex ?_
    rw [hD, hn, List.take_length]
/-- {k: v for ..}, by pairs told by the item -/
theorem dc_ys (w : Walk J n G Y) {g : TG} {tt : TT} {tk tv : TE} {vs : List Nat} {σ : L2.St} {H1 : Hp} {D : Addr} {Qd : Hp → Prop} (ys : List α) (hn : n = ys.length) (hz : n ≤ 100000) (p : α → Bool) (kf : α → Key) (F : α → V) (nD : H1 D = none)
    (hG : ∀ H, Ex H1 H → G H)
    (hs : ∀ i (y : α) x H H', ys[i]? = some y → Ex H1 H → Y i H x H' → ∀ (Z : V → V → Hp → Prop) (N : Hp → Prop), (∀ H4, Ex H H4 → p y = true → Z (kV (kf y)) (F y) H4) → (∀ H3, Ex H H3 → p y = false → N H3) →
      g x (wipe σ vs) H' fun σ2 H2 => wipe σ2 vs = wipe σ vs ∧ tt σ2 H2 fun b H3 => if b = true then tk σ2 H3 fun a H4 => tv σ2 H4 fun z H5 => Z a z H5 else N H3)
    (hd : ∀ H, Ex H1 H → H D = some (.dK ((ys.filter p).foldl (fun acc y => putK acc (kf y) (F y)) [])) → Qd H) :
    ∃ Wk : Nat → Nat → Hp → Prop, (∃ r, Wk 0 r (upd H1 D (.dK []))) ∧ ∀ j r Hc, Wk j r Hc →
      (J.stop j Hc ∧ Qd Hc) ∨ (J.go j Hc ∧ ∃ After : Hp → Prop, (∀ Hd, After Hd → ∃ r', r' < r ∧ Wk (j + 1) r' Hd) ∧ ∀ x H', J.yld j Hc x H' → g x (wipe σ vs) H' fun σ2 H2 => wipe σ2 vs = wipe σ vs ∧ tt σ2 H2 fun b H3 =>
        if b = true then tk σ2 H3 fun y H4 => tv σ2 H4 fun z H5 => ∃ had k, y = kV k ∧ H5 D = some (.dK had) ∧ had.length < sizeLine ∧ After (upd H5 D (.dK (putK had k z))) else After H3) := by
  have len_put : ∀ (l : List α) (acc : List (Key × V)), (l.foldl (fun acc y => putK acc (kf y) (F y)) acc).length ≤ acc.length + l.length := by
    intro l
    induction l with
    | nil => intro acc; simp
    | cons y r ih =>
      intro acc
      have h1 := ih (putK acc (kf y) (F y))
      have h2 : (putK acc (kf y) (F y)).length ≤ acc.length + 1 := by
        unfold putK
        split
        · rw [List.length_map]; omega
        · simp [List.length_append]
      rw [List.foldl_cons]
      simp only [List.length_cons]
      omega
  refine ⟨fun i m H => m = n - i ∧ i ≤ n ∧ Ex H1 H ∧ H D = some (.dK (((ys.take i).filter p).foldl (fun acc y => putK acc (kf y) (F y)) [])), ⟨n, by simp, Nat.zero_le _, Ex.new nD, by rw [upd_same]; rfl⟩, ?_⟩
  rintro i m H ⟨rfl, hi, ex, hD⟩
  have q := hG H ex
  by_cases hlt : i < n
  · have hi' : i < ys.length := by omega
    have ey : ys[i]? = some ys[i] := List.getElem?_eq_getElem hi'
    have tk' : ys.take (i + 1) = ys.take i ++ [ys[i]] := by rw [List.take_add_one, ey]; rfl
    refine .inr ⟨w.goes i H hlt q, fun H' => Ex H1 H' ∧ H' D = some (.dK (((ys.take (i + 1)).filter p).foldl (fun acc y => putK acc (kf y) (F y)) [])), fun H' h' => ⟨n - (i + 1), by omega, rfl, hlt, h'⟩, fun x H' y => ?_⟩
    refine hs i ys[i] x H H' ey ex (w.yields i H x H' hlt q y) _ _ (fun H4 e4 hp => ?_) fun H3 e3 hp => ?_
    · refine ⟨_, kf ys[i], rfl, e4 _ _ hD, ?_, Ex.mut (ex.trans e4) nD, ?_⟩
      · have h1 := len_put ((ys.take i).filter p) []
        have h2 : ((ys.take i).filter p).length ≤ i := Nat.le_trans (List.length_filter_le _ _) (by rw [List.length_take]; omega)
        have h3 : ([] : List (Key × V)).length = 0 := rfl
        exact sz_lt (by omega)
      · rw [upd_same, tk', List.filter_append, List.foldl_append]
        simp [hp]
    · refine ⟨ex.trans e3, ?_⟩
      rw [e3 _ _ hD, tk', List.filter_append, List.foldl_append]
      simp [hp]
  · have e : i = n := by omega
    subst e
    refine .inl ⟨w.stops H q, hd H ex ?_⟩
    rw [hD, hn, List.take_length]
end
end KL

set_option Elab.async false
set_option maxRecDepth 100000
set_option maxHeartbeats 4000000
namespace K9
open PySem PySem.Spec PyProof.Rows L2 SX Evl KL
def top (i : Nat) : Stmt := PySem.Challenge.pw_keptlines_k09_lasting_by_hand.main.body.getD i (.Pass ⟨0, 0, 0, 0⟩)
section
variable {P : Program} {w : World} {K : PySem.W.Frag} {mg : Str → Option Value} {base : Heap} {f : Addr} {fd : FuncData}
abbrev s_law_mixed : Stmt := top 46
theorem sc_law_mixed : FnScope ["cell", "k"] ["cell", "k"] (C8.fnScope s_law_mixed) := C8.fnScope_by (by decide +kernel)
theorem ok_mixed (F : C8.Def K mg "_law_mixed" s_law_mixed f fd) (b : Binds K fd ["cell", "k"] []) (B : Blt mg) : C8.Cal P w K mg base 1 "_law_mixed" spMixed [] :=
  C8.cal0 F b .nil sc_law_mixed (fun vs H Q E h => by obtain ⟨c, k, rfl, _⟩ := h; rfl) fun cdv A outer s H vs Q E hr h => by
    have nd := sc_law_mixed.nd
    obtain ⟨c, k, rfl, h1, h2, q⟩ := h
    refine ⟨_, (pss_cons (ps_set (i := 0) nd rfl (by first | exact Or.inl rfl | exact Or.inr rfl) (pe_op op_modN (pe_callTy (T := "int") call_int1 (by rfl) B.int_ (by decide +kernel) (pa_cons (pv 0) pa_nil)) pe_int))
      (pss_one (ps_ret (pe_op op_modN (pe_op op_mul (pe_op op_modN (pe_op op_add (pe_op op_add (pe_op op_mul (pv 0) (pe_op op_add pe_int (pe_op op_mul (pe_op op_mul pe_int (pv 1)) (pv 1)))) (pe_op op_mul pe_int (pv 1))) pe_int) pe_int) pe_int) pe_int)))), ?_⟩
    have z1 : (2147483647 : Int) ≠ 0 := by decide
    have z2 : (2147483629 : Int) ≠ 0 := by decide
    have b1 := fmod_bounds c 2147483647 (by decide)
    have k2 : 2 * k * k < 20000000000000001 := by
      have : k * k ≤ 100000000 * 100000000 := Int.mul_le_mul (by omega) (by omega) h1 (by decide)
      have e : 2 * k * k = 2 * (k * k) := by rw [Int.mul_assoc]
      omega
    have b2 := fmod_bounds (c.fmod 2147483647 * (48271 + 2 * k * k) + 69621 * k + 11) 2147483647 (by decide)
    refine ⟨_, rfl, .inl ⟨_, rfl, _, _, rfl, rfl, z1, ?_⟩⟩
    refine ⟨_, rfl, _, rfl, _, _, rfl, rfl, .inl ⟨by decide, by decide⟩, _, rfl, _, _, rfl, rfl, .inr ⟨by omega, by omega⟩, _, _, rfl, rfl, _, _, rfl, rfl, .inl ⟨by omega, by omega⟩, ?_⟩
    refine ⟨_, rfl, _, _, rfl, rfl, .inl ⟨by decide, by decide⟩, _, _, rfl, rfl, _, _, rfl, rfl, _, _, rfl, rfl, z1, _, _, rfl, rfl, .inr ⟨by decide, by decide⟩, _, _, rfl, rfl, z2, ?_⟩
    have b3 := fmod_bounds ((c.fmod 2147483647 * (48271 + 2 * k * k) + 69621 * k + 11).fmod 2147483647 * 69621) 2147483629 (by decide)
    exact q _ _ b3.1 b3.2 (Ex.refl _)
abbrev s_law_begin : Stmt := top 47
theorem sc_law_begin : FnScope ["script", "cells", "cell"] ["script"] (C8.fnScope s_law_begin) := C8.fnScope_by (by decide +kernel)
theorem ok_begin (F : C8.Def K mg "_law_begin" s_law_begin f fd) (b : Binds K fd ["script"] []) (B : Blt mg) : C8.Cal P w K mg base 1 "_law_begin" (spBegin K) [] :=
  C8.cal0 F b .nil sc_law_begin (fun vs H Q E h => by obtain ⟨a, ns, rfl, _⟩ := h; rfl) fun cdv A outer s H vs Q E hr h => by
    have nd := sc_law_begin.nd
    have hu := hu_of hr
    obtain ⟨a, ns, rfl, hS, hl, q⟩ := h
    refine ⟨_, (C8.pss_cut (ps_set (i := 1) nd rfl (by first | exact Or.inl rfl | exact Or.inr rfl) (pe_ifExp (pt_cmpR (op_neD hr.units) (pv 0) (pe_lst pa_nil) (nomark _)) (pe_callTy (T := "list") call_list_of (by rfl) B.list_ (by decide +kernel) (pa_cons (pv 0) pa_nil)) (pe_lst (pa_cons pe_int pa_nil))))
      (pss_one (ps_ret (pe_disp (pps_cons pe_str (pv 1) (pps_cons pe_str (pe_lc (own := [("cell", 2)]) rfl nd (pi_list (pv 1)) (blkOk_by (N := ["script", "cells", "cell"]) (sc := C8.fnScope s_law_begin) (by decide +kernel)) (fun _ _ _ _ _ => (pg_name (i := 2) nd rfl (by first | exact Or.inl rfl | exact Or.inr rfl))) (fun _ _ _ _ _ => pts_nil) (fun _ _ _ _ _ => (pe_ifExp (pt_cmpR op_ge (pv 2) (pe_op op_pow pe_int pe_int) (nomark _)) (pv 2) pe_int))) (pps_cons pe_str pe_int (pps_cons pe_str pe_int pps_nil)))) rfl rfl (by simp) (by decide))))), ?_⟩
    -- cells = list(script) if script != [] else [0]
    refine ⟨fun σ H1 => ∃ (D : Addr) (cs : List Int), σ = [some (.ref a), some (.ref D), none] ∧ Ex H H1 ∧ H D = none ∧ H1 D = some (.lst (cs.map V.int)) ∧ 0 < cs.length ∧ cs.length ≤ 100, ?_, ?_⟩
    · refine ⟨_, rfl, Nat.zero_le _, fun e he => ?_⟩
      have x1 : Ex H (upd H e (.lst [])) := Ex.new he
      refine ⟨.list (ns.map PyData.int), .list [], .lst (ex_l x1 hS) (dp_ints _ _ ns), .lst (sq_of upd_same) .nil, shaped_ints (by omega), shaped_nil, _, rfl, ?_⟩
      rw [eqv_ints_nil]
      cases ns with
      | nil =>
        refine iteF ⟨small1000 (by decide) |> Nat.le_of_lt, fun D hD => ⟨D, [0], rfl, x1.trans (Ex.new hD), fresh_back x1 hD, upd_same, by decide, by decide⟩⟩
      | cons n r =>
        refine iteT ⟨_, rfl, a, _, rfl, .inl (ex_l x1 hS), fun D hD => ⟨D, n :: r, rfl, x1.trans (Ex.new hD), fresh_back x1 hD, upd_same, by simp, by omega⟩⟩
    · rintro σ H1 ⟨D, cs, rfl, x1, nD, hD, l1, l2⟩
      intro st hst
      have x2 : Ex H1 (upd H1 st (.dK [])) := Ex.new hst
      have hD2 := x2 _ _ hD
      refine ⟨_, rfl, _, rfl, D, rfl, ⟨_, sq_of hD2⟩, fun L hL => ?_⟩
      refine lc_ys (L2.walk_list (K := K) (a := D) (xs := cs.map V.int)) cs (by rw [List.length_map]) (by rw [List.length_map]; omega) (fun _ => true) (fun c => .int (if 10 ^ 18 ≤ c then c else 0)) hL (fun H2 e2 => sq_of (e2 _ _ hD2)) ?_ ?_
      · rintro i c x H2 H3 hi e2 ⟨rfl, hx⟩ Z N hz hn
        rw [List.getElem?_map, hi] at hx
        obtain rfl : V.int c = x := Option.some.inj hx
        refine ⟨rfl, ?_⟩
        refine iteT (B := N H3) ?_
        refine ⟨_, rfl, _, _, rfl, rfl, ⟨by decide, by decide, by decide⟩, _, _, rfl, rfl, _, rfl, ?_⟩
        by_cases hc : (10 : Int) ^ 18 ≤ c
        · have e := hz H3 (Ex.refl _) rfl
          rw [if_pos hc] at e
          rw [decide_eq_true (show (10 : Int) ^ (18 : Int).toNat ≤ c from hc)]
          exact iteT ⟨_, rfl, e⟩
        · have e := hz H3 (Ex.refl _) rfl
          rw [if_neg hc] at e
          rw [decide_eq_false (show ¬ (10 : Int) ^ (18 : Int).toNat ≤ c from hc)]
          exact iteF e
      · intro H2 e2 hL2
        refine ⟨e2 _ _ upd_same, [(Sum.inr "cells", .ref D), (Sum.inr "lefts", .ref L), (Sum.inr "at", .int 0), (Sum.inr "room", .int 0)], rfl, (by show 4 ≤ 15; decide), ?_⟩
        have nst : ∀ b o, H b = some o → b ≠ st := fun b o e => ne_of_none (x1 _ _ e) hst
        have nL : H L = none := by
          have z := fresh_back (x1.trans x2) hL
          exact z
        have nDs : D ≠ st := ne_of_none hD hst
        have nLs : L ≠ st := fun z => by rw [z, upd_same] at hL; cases hL
        have nDL : D ≠ L := ne_of_none hD2 hL
        rw [show (List.filter (fun _ => true) cs) = cs from List.filter_eq_self.mpr (fun _ _ => rfl)] at hL2
        have mg4 : mergeK [] [(Sum.inr "cells", V.ref D), (Sum.inr "lefts", V.ref L), (Sum.inr "at", V.int 0), (Sum.inr "room", V.int 0)] = stK D L 0 := by
          have h1 : ¬ ((Sum.inr "cells" : Key) = (Sum.inr "lefts" : Key)) := by decide +kernel
          have h2 : ¬ ((Sum.inr "cells" : Key) = (Sum.inr "at" : Key)) := by decide +kernel
          have h3 : ¬ ((Sum.inr "cells" : Key) = (Sum.inr "room" : Key)) := by decide +kernel
          have h4 : ¬ ((Sum.inr "lefts" : Key) = (Sum.inr "at" : Key)) := by decide +kernel
          have h5 : ¬ ((Sum.inr "lefts" : Key) = (Sum.inr "room" : Key)) := by decide +kernel
          have h6 : ¬ ((Sum.inr "at" : Key) = (Sum.inr "room" : Key)) := by decide +kernel
          unfold mergeK putK
          simp [h1, h2, h3, h4, h5, h6]
        rw [mg4]
        refine q st L _ ⟨⟨D, cs, cs.map fun c => if 10 ^ 18 ≤ c then c else 0, upd_same, ?_, ?_, nDL, by rw [List.length_map], l1, l2⟩, by decide⟩ ?_ (fresh_back x1 hst) nL
        · rw [upd_ne nDs]
          exact e2 _ _ hD2
        · rw [upd_ne nLs, hL2, List.map_map]
          rfl
        · intro b o e
          rw [upd_ne (nst b o e)]
          exact e2 _ _ (x2 _ _ (x1 _ _ e))
abbrev s_law_draw : Stmt := top 48
theorem sc_law_draw : FnScope ["state", "many", "at", "place", "left", "number"] ["state", "many"] (C8.fnScope s_law_draw) := C8.fnScope_by (by decide +kernel)
theorem ok_draw (F : C8.Def K mg "_law_draw" s_law_draw f fd) (b : Binds K fd ["state", "many"] []) (B : Blt mg) (C__law_mixed : C8.Cal P w K mg base 1 "_law_mixed" spMixed []) : C8.Cal P w K mg base 2 "_law_draw" spDraw [] :=
  C8.cal0 F b .nil sc_law_draw (fun vs H Q E h => by obtain ⟨st, dL, n, m, rfl, _⟩ := h; rfl) fun cdv A outer s H vs Q E hr h => by
    have nd := sc_law_draw.nd
    have hu := hu_of hr
    obtain ⟨st, dL, n, m, rfl, S, h1, h2, h3, q⟩ := h
    refine ⟨_, (pss_cons (ps_set (i := 2) nd rfl (by first | exact Or.inl rfl | exact Or.inr rfl) (pe_dget hu (pv 0) pe_str (fun _ _ => rfl)))
      (pss_cons (ps_dput hu (pv 0) pe_str (pe_op op_add (pv 2) pe_int) rfl)
      (pss_cons (ps_set (i := 3) nd rfl (by first | exact Or.inl rfl | exact Or.inr rfl) (pe_op op_modN (pe_callTy (T := "int") call_int1 (by rfl) B.int_ (by decide +kernel) (pa_cons (pv 2) pa_nil)) (pe_callB (id := "len") call_len_seq (by rfl) B.len_ (by decide +kernel) (pa_cons (pe_dget hu (pv 0) pe_str (fun _ _ => rfl)) pa_nil))))
      (pss_cons (ps_set (i := 4) nd rfl (by first | exact Or.inl rfl | exact Or.inr rfl) (pe_ix ix_list (pe_dget hu (pv 0) pe_str (fun _ _ => rfl)) (pv 3) (fun _ _ => rfl)))
      (pss_cons (ps_if (pt_cmpR op_gt (pv 4) pe_int (nomark _)) (pss_cons (ps_asg (pe_op op_fdivN (pv 4) (pv 1)) (pg_sub (pe_dget hu (pv 0) pe_str (fun _ _ => rfl)) (pv 3) set_list))
      (pss_one (ps_ret (pe_op op_modN (pe_callTy (T := "int") call_int1 (by rfl) B.int_ (by decide +kernel) (pa_cons (pv 4) pa_nil)) (pv 1))))) pss_nil)
      (pss_cons (ps_set (i := 5) nd rfl (by first | exact Or.inl rfl | exact Or.inr rfl) (C8.pe_c C__law_mixed hr (by decide) rfl (pa_cons (C8.pe_c C__law_mixed hr (by decide) rfl (pa_cons (pe_ix ix_list (pe_dget hu (pv 0) pe_str (fun _ _ => rfl)) (pv 3) (fun _ _ => rfl)) (pa_cons (pv 2) pa_nil))) (pa_cons (pe_op op_add pe_int (pv 2)) pa_nil))))
      (pss_one (ps_ret (pe_op op_modN (pe_op op_fdivN (pe_callTy (T := "int") call_int1 (by rfl) B.int_ (by decide +kernel) (pa_cons (pe_op op_add (pe_op op_mul (pv 5) pe_int) (C8.pe_c C__law_mixed hr (by decide) rfl (pa_cons (pv 5) (pa_cons (pe_op op_add pe_int (pv 2)) pa_nil)))) pa_nil)) pe_int) (pv 1)))))))))), ?_⟩
    obtain ⟨⟨dC, cs, ls, e1, e2, e3, ne, l1, l2, l3⟩, n0⟩ := S
    have nsC : st ≠ dC := ne_of e1 e2 (by intro z; cases z)
    have nsL : st ≠ dL := ne_of e1 e3 (by intro z; cases z)
    -- at = state['at']; state['at'] = at + 1
    refine ⟨_, rfl, st, _, rfl, .inl ⟨_, Sum.inr "at", .inl e1, rfl, (st_at _ _ _).symm⟩, ?_⟩
    refine ⟨_, rfl, _, _, rfl, rfl, _, rfl, st, _, rfl, DPut.k (k := Sum.inr "at") e1 (small1000 (by show 4 ≤ 1000; decide)), ?_⟩
    rw [st_put]
    have g1 : upd H st (stO dC dL (n + 1)) st = some (stO dC dL (n + 1)) := upd_same
    have g2 : upd H st (stO dC dL (n + 1)) dC = some (.lst (cs.map V.int)) := by rw [upd_ne nsC.symm]; exact e2
    have g3 : upd H st (stO dC dL (n + 1)) dL = some (.lst (ls.map V.int)) := by rw [upd_ne nsL.symm]; exact e3
    -- place = int(at) % len(state['cells'])
    have lz : (((cs.map V.int).length : Nat) : Int) ≠ 0 := by rw [List.length_map]; omega
    refine ⟨_, rfl, .inl ⟨_, rfl, _, rfl, st, _, rfl, .inl ⟨_, Sum.inr "cells", .inl g1, rfl, (st_cells _ _ _).symm⟩, dC, _, rfl, .inl (.inl (.inl g2)), _, _, rfl, rfl, lz, ?_⟩⟩
    have pb := fmod_bounds n (((cs.map V.int).length : Nat) : Int) (by rw [List.length_map]; omega)
    rw [List.length_map] at pb
    obtain ⟨p, hq⟩ : ∃ p, n.fmod (((cs.map V.int).length : Nat) : Int) = p := ⟨_, rfl⟩
    have hp := hq
    rw [List.length_map] at hp
    rw [hp] at pb
    have hV := congrArg V.int hq
    obtain ⟨j, hj⟩ : ∃ j : Nat, p = (j : Int) := ⟨p.toNat, by omega⟩
    have jl : j < ls.length := by omega
    have jc : j < cs.length := by omega
    have aL : atI (ls.map V.int) p = some (V.int ls[j]) := at_of hj (by rw [List.getElem?_map, List.getElem?_eq_getElem jl]; rfl)
    have aC : atI (cs.map V.int) p = some (V.int cs[j]) := at_of hj (by rw [List.getElem?_map, List.getElem?_eq_getElem jc]; rfl)
    generalize ls[j] = left at aL
    generalize cs[j] = cell at aC
    -- left = state['lefts'][place]
    refine ⟨_, rfl, st, _, rfl, .inl ⟨_, Sum.inr "lefts", .inl g1, rfl, (st_lefts _ _ _).symm⟩, _, rfl, dL, _, p, V.int left, rfl, hV, .inl (.inl g3), aL, ?_⟩
    refine ⟨_, rfl, _, _, rfl, rfl, _, rfl, ?_⟩
    have mz : m ≠ 0 := by omega
    have chg : Chg st dL H (upd H st (stO dC dL (n + 1))) := fun b o e h1 _ => by rw [upd_ne h1]; exact e
    by_cases hpos : 0 < left
    · rw [decide_eq_true hpos]
      refine iteT ?_
      -- state['lefts'][place] = left // many; return int(left) % many
      refine ⟨_, rfl, _, rfl, _, _, rfl, rfl, ⟨mz, by omega⟩, ?_⟩
      refine ⟨_, rfl, st, _, rfl, .inl ⟨_, Sum.inr "lefts", .inl g1, rfl, (st_lefts _ _ _).symm⟩, _, rfl, dL, _, p, j, rfl, hV, g3, ?_, ?_⟩
      · rw [List.length_map]
        unfold ixN
        rw [if_pos (by omega)]
        rw [if_pos (by omega)]
        refine congrArg some ?_
        omega
      refine ⟨_, rfl, .inl ⟨_, rfl, _, rfl, _, _, rfl, rfl, mz, ?_⟩⟩
      have rb := fmod_bounds left m h2
      refine q _ _ rb.1 rb.2 ⟨⟨dC, cs, ls.set j (left.fdiv m), ?_, ?_, ?_, ne, by rw [List.length_set]; exact l1, l2, l3⟩, by omega⟩ ?_
      · rw [upd_ne nsL]; exact g1
      · rw [upd_ne ne]; exact g2
      · rw [upd_same, List.map_set]
      · intro b o e n1 n2
        rw [upd_ne n2, upd_ne n1]
        exact e
    · rw [decide_eq_false hpos]
      refine iteF ?_
      -- number = _law_mixed(_law_mixed(state['cells'][place], at), 40 + at)
      refine ⟨_, rfl, st, _, rfl, .inl ⟨_, Sum.inr "cells", .inl g1, rfl, (st_cells _ _ _).symm⟩, _, rfl, dC, _, p, V.int cell, rfl, hV, .inl (.inl g2), aC, _, rfl, cell, n, rfl, n0, by omega, fun r1 H2 r10 r11 x2 => ?_⟩
      refine ⟨_, rfl, _, _, rfl, rfl, r1, _, rfl, by omega, by omega, fun r2 H3 r20 r21 x3 => ?_⟩
      refine ⟨_, rfl, _, _, rfl, rfl, .inl ⟨by omega, by omega⟩, _, rfl, _, rfl, _, _, rfl, rfl, r2, _, rfl, by omega, by omega, fun r3 H4 r30 r31 x4 => ?_⟩
      refine ⟨_, _, rfl, rfl, .inl ⟨_, rfl, _, _, rfl, rfl, ⟨by decide, by decide⟩, _, rfl, _, _, rfl, rfl, mz, ?_⟩⟩
      have rb := fmod_bounds ((r2 * 2147483647 + r3).fdiv 64) m h2
      have x : Ex (upd H st (stO dC dL (n + 1))) H4 := (x2.trans x3).trans x4
      exact q _ _ rb.1 rb.2 ⟨⟨dC, cs, ls, x _ _ g1, x _ _ g2, x _ _ g3, ne, l1, l2, l3⟩, by omega⟩ fun b o e n1 n2 => x _ _ (chg b o e n1 n2)
end
end K9

set_option Elab.async false
set_option maxRecDepth 100000
set_option maxHeartbeats 4000000
/-! Words and grammars as data; what the program's small defs promise of them. -/
namespace KL
open PySem PySem.Spec PyProof.Rows L2 SX Evl
/-- a def that leaves all that was tracked as it was -/
abbrev spP (n : Nat) (R : List V → Hp → V → Prop) : Sp := fun vs H Q _ => vs.length = n ∧ ∃ v, R vs H v ∧ ∀ H', Ex H H' → Q v H'
abbrev ss (l : List Nat) : V := .str (S l)
def mem (m : Str) (c : Nat) : Bool := decide (c ∈ m.cps.toList)
abbrev sgWord : Str := "abcdefghijklmnopqrstuvwxyz0123456789-=."
abbrev sgName : Str := "abcdefghijklmnopqrstuvwxyz-"
abbrev sgLetter : Str := "abcdefghijklmnopqrstuvwxyz0123456789"
abbrev sgFigure : Str := "0123456789"
/-- the module's constants -/
structure Csts (K : PySem.W.Frag) (mg : Str → Option Value) (aK aA aV aL : Addr) : Prop where
  g_MOST_SIGNS : ∃ u, mg "MOST_SIGNS" = some u ∧ RelV (.int 80) u
  g_MOST_WORDS : ∃ u, mg "MOST_WORDS" = some u ∧ RelV (.int 80) u
  g_LEAST_NAME : ∃ u, mg "LEAST_NAME" = some u ∧ RelV (.int 2) u
  g_MOST_NAME : ∃ u, mg "MOST_NAME" = some u ∧ RelV (.int 12) u
  g_MOST_OPTIONS : ∃ u, mg "MOST_OPTIONS" = some u ∧ RelV (.int 24) u
  g_MOST_PLACES : ∃ u, mg "MOST_PLACES" = some u ∧ RelV (.int 5) u
  g_FIGURES : ∃ u, mg "FIGURES" = some u ∧ RelV (.str sgFigure) u
  g_LETTERS : ∃ u, mg "LETTERS" = some u ∧ RelV (.str sgLetter) u
  g_NAME_SIGNS : ∃ u, mg "NAME_SIGNS" = some u ∧ RelV (.str sgName) u
  g_SIGNS : ∃ u, mg "SIGNS" = some u ∧ RelV (.str sgWord) u
  g_KINDS : ∃ u, mg "KINDS" = some u ∧ RelV (.ref aK) u
  g_ARITIES : ∃ u, mg "ARITIES" = some u ∧ RelV (.ref aA) u
  g_VALUELESS : ∃ u, mg "VALUELESS" = some u ∧ RelV (.ref aV) u
  g_LONE : ∃ u, mg "LONE" = some u ∧ RelV (.ref aL) u
  t_KINDS : ∀ H, SqT K H aK [.str "flag", .str "count", .str "once", .str "last", .str "all", .str "maybe"]
  t_ARITIES : ∀ H, SqT K H aA [.str "one", .str "may", .str "many"]
  t_VALUELESS : ∀ H, SqT K H aV [.str "flag", .str "count"]
  t_LONE : ∀ H, SqT K H aL [.str "flag", .str "count", .str "maybe"]
/-- the kinds that want no value, or none always -/
structure CstsV (K : PySem.W.Frag) (mg : Str → Option Value) (aV aL : Addr) : Prop where
  g_VALUELESS : ∃ u, mg "VALUELESS" = some u ∧ RelV (.ref aV) u
  g_LONE : ∃ u, mg "LONE" = some u ∧ RelV (.ref aL) u
  t_VALUELESS : ∀ H, SqT K H aV [.str "flag", .str "count"]
  t_LONE : ∀ H, SqT K H aL [.str "flag", .str "count", .str "maybe"]
def spMade : Sp := spP 2 fun vs _ v => ∃ (l : List Nat) (m : Str), vs = [ss l, .str m] ∧ l.length ≤ 1000 ∧ v = .bl (l.all (mem m))
def wordOk (l : List Nat) : Bool := decide (l.length ≤ 80) && l.all (mem sgWord)
def nameOk (l : List Nat) : Bool := decide (2 ≤ l.length) && decide (l.length ≤ 12) && l.all (mem sgName) && decide (l.head? ≠ some 45) && decide (l.getLast? ≠ some 45)
def letterOk (l : List Nat) : Bool := decide (l.length ≤ 1) && l.all (mem sgLetter)
def dashed (l : List Nat) : Bool := decide (l.head? = some 45) && decide (l ≠ [45])
def number (l : List Nat) : Bool := dashed l && (l.drop 1).all (mem sgFigure)
def spWord : Sp := spP 1 fun vs _ v => ∃ l : List Nat, vs = [ss l] ∧ l.length ≤ 1000 ∧ v = .bl (wordOk l)
def spName : Sp := spP 1 fun vs _ v => ∃ l : List Nat, vs = [ss l] ∧ l.length ≤ 1000 ∧ v = .bl (nameOk l)
def spLetter : Sp := spP 1 fun vs _ v => ∃ l : List Nat, vs = [ss l] ∧ l.length ≤ 1000 ∧ v = .bl (letterOk l)
def spDashed : Sp := spP 1 fun vs _ v => ∃ l : List Nat, vs = [ss l] ∧ l.length ≤ 1000 ∧ v = .bl (dashed l)
def spNumber : Sp := spP 1 fun vs _ v => ∃ l : List Nat, vs = [ss l] ∧ l.length ≤ 1000 ∧ v = .bl (number l)
theorem ss_eq {a b : List Nat} : (decide (ss a = ss b)) = decide (a = b) := by
  by_cases h : a = b
  · subst h
    simp
  · have : ¬ ss a = ss b := fun z => h (S_inj (V.str.inj z))
    rw [decide_eq_false h, decide_eq_false this]
theorem isStr {K : PySem.W.Frag} {H : Hp} (l : Str) : TyX K H (.str l) (.type "str") := .base (.str l)
theorem kStr {K : PySem.W.Frag} : PySem.W.kitOne K (.type "str") (.type "str") = some true := kit_ty (by decide +kernel)
theorem kTup {K : PySem.W.Frag} : PySem.W.kitOne K (.type "tuple") (.type "tuple") = some true := kit_ty (by decide +kernel)
theorem kBool {K : PySem.W.Frag} : PySem.W.kitOne K (.type "bool") (.type "bool") = some true := kit_ty (by decide +kernel)
theorem len1000 {l : List Nat} (h : l.length ≤ 1000) : (S l).length ≤ sizeLine := by rw [S_len]; exact Nat.le_of_lt (small1000 h)
end KL

set_option Elab.async false
set_option maxRecDepth 100000
set_option maxHeartbeats 4000000
/-! `text.strip(signs) == ''` says that each sign of the text is one of the signs. -/
namespace KL
open PySem PySem.Spec PyProof.Rows L2 SX Evl
theorem tw_le {α} (p : α → Bool) (l : List α) : (l.takeWhile p).length ≤ l.length := by
  induction l with
  | nil => simp
  | cons a r ih =>
    rw [List.takeWhile_cons]
    cases p a with
    | true => simp; exact ih
    | false => simp
theorem tw_lt {α} (p : α → Bool) : ∀ l : List α, l.all p = false → (l.takeWhile p).length < l.length
  | [], h => by simp at h
  | a :: r, h => by
    rw [List.takeWhile_cons]
    cases e : p a with
    | true =>
      simp only [List.all_cons, e, Bool.true_and] at h
      simpa using tw_lt p r h
    | false => simp
theorem tw_all {α} (p : α → Bool) : ∀ l : List α, l.all p = true → (l.takeWhile p).length = l.length
  | [], _ => rfl
  | a :: r, h => by
    rw [List.all_cons, Bool.and_eq_true] at h
    rw [List.takeWhile_cons, h.1]
    simpa using tw_all p r h.2
theorem drop_tw {α} (p : α → Bool) : ∀ l : List α, l.all p = false → (l.drop (l.takeWhile p).length).all p = false
  | [], h => by simp at h
  | a :: r, h => by
    rw [List.takeWhile_cons]
    cases e : p a with
    | true =>
      simp only [List.all_cons, e, Bool.true_and] at h
      simpa using drop_tw p r h
    | false => simp [e]
theorem strip_all (l : List Nat) (m : Str) : (Txt.stripChars (S l) m = S []) ↔ l.all (mem m) = true := by
  have hp : (fun c => m.cps.contains c) = mem m := by
    funext c
    unfold mem
    by_cases h : c ∈ m.cps.toList
    · rw [decide_eq_true h]
      simpa using h
    · rw [decide_eq_false h]
      simpa using h
  have hs : Txt.stripChars (S l) m = PySem.W.stripped (mem m) true true (S l) := by
    rw [Txt.stripChars, PySem.W.stripBy_eq]
    show PySem.W.stripped (fun c => m.cps.contains c) true true (S l) = _
    rw [hp]
  rw [hs]
  generalize mem m = p
  have e : PySem.W.stripped p true true (S l) = ⟨(l.toArray).extract (l.takeWhile p).length (l.length - ((l.drop (l.takeWhile p).length).reverse.takeWhile p).length)⟩ := by
    simp [PySem.W.stripped, Builtin.Str.strSub, Str.length]
  rw [e]
  have hz : ∀ (b : Array Nat), ((⟨b⟩ : Str) = S []) ↔ b.size = 0 := fun b => by
    constructor
    · intro h
      have := congrArg (fun x : Str => x.cps.size) h
      simpa using this
    · intro h
      rw [Array.eq_empty_of_size_eq_zero h]
  rw [hz, Array.size_extract]
  have h1 := tw_le p l
  have h2 := tw_le p (l.drop (l.takeWhile p).length).reverse
  rw [List.length_reverse, List.length_drop] at h2
  simp only [List.size_toArray]
  cases h : l.all p with
  | true =>
    have := tw_all p l h
    simp only [iff_true]
    omega
  | false =>
    have h3 := tw_lt p (l.drop (l.takeWhile p).length).reverse (by rw [List.all_reverse]; exact drop_tw p l h)
    rw [List.length_reverse, List.length_drop] at h3
    simp only [Bool.false_eq_true, iff_false]
    omega
theorem strip_dec (l : List Nat) (m : Str) : decide (Txt.stripChars (S l) m = S []) = l.all (mem m) := by
  cases h : l.all (mem m) with
  | true => exact decide_eq_true ((strip_all l m).mpr h)
  | false => exact decide_eq_false fun z => by rw [(strip_all l m).mp z] at h; cases h
theorem strip_val (l : List Nat) (m : Str) : decide (V.str (Txt.stripChars (S l) m) = V.str "") = l.all (mem m) := by
  rw [← strip_dec]
  have e : ("" : Str) = S [] := rfl
  rw [e]
  by_cases h : Txt.stripChars (S l) m = S []
  · rw [decide_eq_true h, decide_eq_true (congrArg V.str h)]
  · rw [decide_eq_false h, decide_eq_false fun z => h (V.str.inj z)]
end KL

set_option Elab.async false
set_option maxRecDepth 100000
set_option maxHeartbeats 4000000
namespace K9
open PySem PySem.Spec PyProof.Rows L2 SX Evl KL
section
variable {P : Program} {w : World} {K : PySem.W.Frag} {mg : Str → Option Value} {base : Heap} {f : Addr} {fd : FuncData} {aK aA aV aL : Addr}
abbrev s_made_of : Stmt := top 14
theorem sc_made_of : FnScope ["text", "signs"] ["text", "signs"] (C8.fnScope s_made_of) := C8.fnScope_by (by decide +kernel)
theorem ok_made (F : C8.Def K mg "made_of" s_made_of f fd) (b : Binds K fd ["text", "signs"] []) (B : Blt mg) : C8.Cal P w K mg base 1 "made_of" spMade [] :=
  C8.cal0 F b .nil sc_made_of (fun vs H Q E h => h.1) fun cdv A outer s H vs Q E hr h => by
    have nd := sc_made_of.nd
    obtain ⟨_, v, ⟨l, m, rfl, hl, rfl⟩, q⟩ := h
    refine ⟨_, (pss_one (ps_ret (pe_cmpR op_eq (pe_bm PySem.F.plainAttrs_str PySem.F.slot_str_strip PySem.F.type_str_strip mt_stripChars (pv 0) (pa_cons (pv 1) pa_nil)) pe_str (nomark _)))), ?_⟩
    refine ⟨_, rfl, rfl, _, rfl, S l, m, rfl, rfl, len1000 hl, rfl, ?_⟩
    rw [strip_val]
    exact q H (Ex.refl _)
abbrev s_is_word : Stmt := top 15
theorem sc_is_word : FnScope ["thing"] ["thing"] (C8.fnScope s_is_word) := C8.fnScope_by (by decide +kernel)
theorem ok_word (F : C8.Def K mg "is_word" s_is_word f fd) (b : Binds K fd ["thing"] []) (B : Blt mg) (T : Csts K mg aK aA aV aL) (C_made_of : C8.Cal P w K mg base 1 "made_of" spMade []) : C8.Cal P w K mg base 2 "is_word" spWord [] :=
  C8.cal0 F b .nil sc_is_word (fun vs H Q E h => h.1) fun cdv A outer s H vs Q E hr h => by
    have nd := sc_is_word.nd
    obtain ⟨_, v, ⟨l, rfl, hl, rfl⟩, q⟩ := h
    refine ⟨_, (pss_one (ps_ret (pe_and (pe_callB (id := "isinstance") call_isi (by rfl) B.isinstance_ (by decide +kernel) (pa_cons (pv 0) (pa_cons (pe_bltn (v := .ty "str") (by rfl) B.str_ (by decide +kernel) rfl) pa_nil))) (pe_and (pe_cmpR op_le (pe_callB (id := "len") call_len_str (by rfl) B.len_ (by decide +kernel) (pa_cons (pv 0) pa_nil)) (C8.pe_gc rfl (T.g_MOST_SIGNS)) (nomark _)) (pe_one (C8.pe_c C_made_of hr (by decide) rfl (pa_cons (pv 0) (pa_cons (C8.pe_gc rfl (T.g_SIGNS)) pa_nil)))))))), ?_⟩
    refine ⟨_, rfl, _, _, _, _, true, rfl, .ty "str", isStr _, kStr, true, rfl, iteT ?_⟩
    refine ⟨_, rfl, _, rfl, len1000 hl, _, _, rfl, rfl, _, rfl, ?_⟩
    rw [S_len]
    by_cases h80 : l.length ≤ 80
    · rw [decide_eq_true (show (l.length : Int) ≤ 80 by omega)]
      refine iteT ⟨_, rfl, rfl, _, ⟨l, _, rfl, hl, rfl⟩, fun H2 e2 => ?_⟩
      have z := q H2 e2
      unfold wordOk at z
      rw [decide_eq_true h80, Bool.true_and] at z
      exact z
    · rw [decide_eq_false (show ¬ (l.length : Int) ≤ 80 by omega)]
      refine iteF ?_
      have z := q _ (Ex.refl _)
      unfold wordOk at z
      rw [decide_eq_false h80, Bool.false_and] at z
      exact z
end
end K9

set_option Elab.async false
set_option maxRecDepth 100000
set_option maxHeartbeats 4000000
namespace KL
open PySem PySem.Spec PyProof.Rows L2 SX Evl
theorem lit_dash : ("-" : Str) = S [45] := by decide +kernel
theorem lit_dd : ("--" : Str) = S [45, 45] := by decide +kernel
theorem lit_nil : ("" : Str) = S [] := by decide +kernel
theorem lit_eq : ("=" : Str) = S [61] := by decide +kernel
/-- a text against a written one -/
theorem vs_lit {l m : List Nat} {x : Str} (h : x = S m) : decide (ss l = V.str x) = decide (l = m) := by rw [h]; exact ss_eq
theorem vs_ch {c d : Nat} {x : Str} (h : x = S [d]) : decide (V.str ⟨#[c]⟩ = V.str x) = decide (c = d) := by
  rw [h]
  have e : decide (ss [c] = ss [d]) = decide ([c] = [d]) := ss_eq
  exact e.trans (by simp)
theorem st_S (l m : List Nat) : Txt.startswith (S l) (S m) = decide (l.take m.length = m) := by
  have h : Txt.startswith (S l) (S m) = (decide (0 + m.length ≤ l.length) && (l.toArray.extract 0 (0 + m.length) == m.toArray)) := by
    unfold Txt.startswith Builtin.Str.subAt
    rw [S_len, S_len]
  rw [h, Nat.zero_add]
  have e : (l.toArray.extract 0 m.length == m.toArray) = decide (l.take m.length = m) := by
    rw [Bool.eq_iff_iff]
    simp [← Array.toList_inj]
  rw [e]
  by_cases q : l.take m.length = m
  · have : m.length ≤ l.length := by
      have := congrArg List.length q
      rw [List.length_take] at this
      omega
    simp [q, this]
  · simp [q]
theorem take1 (l : List Nat) (a : Nat) : decide (l.take 1 = [a]) = decide (l.head? = some a) := by
  cases l <;> simp
theorem at_head {c : Nat} {r : List Nat} : atI (S (c :: r)).cps.toList 0 = some c := atI_nat (j := 0) (by simp [S])
theorem at_last {r : List Nat} {c : Nat} : atI (S (r ++ [c])).cps.toList (-1) = some c := atI_last r c
theorem head_at {l : List Nat} {c : Nat} (h : l.head? = some c) : atI (S l).cps.toList 0 = some c := by
  cases l with
  | nil => cases h
  | cons d r => cases h; exact at_head
theorem last_at {l : List Nat} {c : Nat} (h : l.getLast? = some c) : atI (S l).cps.toList (-1) = some c := by
  obtain ⟨r, e⟩ := List.getLast?_eq_some_iff.mp h
  rw [e]
  exact at_last
/-! ### grammars as data -/
structure Opt where
  name : List Nat
  letter : List Nat
  kind : List Nat
  deriving DecidableEq
abbrev kFlag : List Nat := [102, 108, 97, 103]
abbrev kCount : List Nat := [99, 111, 117, 110, 116]
abbrev kOnce : List Nat := [111, 110, 99, 101]
abbrev kLast : List Nat := [108, 97, 115, 116]
abbrev kAll : List Nat := [97, 108, 108]
abbrev kMaybe : List Nat := [109, 97, 121, 98, 101]
abbrev aOne : List Nat := [111, 110, 101]
abbrev aMay : List Nat := [109, 97, 121]
abbrev aMany : List Nat := [109, 97, 110, 121]
theorem lit_flag : ("flag" : Str) = S kFlag := by decide +kernel
theorem lit_count : ("count" : Str) = S kCount := by decide +kernel
theorem lit_once : ("once" : Str) = S kOnce := by decide +kernel
theorem lit_last : ("last" : Str) = S kLast := by decide +kernel
theorem lit_all : ("all" : Str) = S kAll := by decide +kernel
theorem lit_maybe : ("maybe" : Str) = S kMaybe := by decide +kernel
theorem lit_one : ("one" : Str) = S aOne := by decide +kernel
theorem lit_may : ("may" : Str) = S aMay := by decide +kernel
theorem lit_many : ("many" : Str) = S aMany := by decide +kernel
def kinds : List (List Nat) := [kFlag, kCount, kOnce, kLast, kAll, kMaybe]
def arities : List (List Nat) := [aOne, aMay, aMany]
theorem eqV_ss (a b : List Nat) : eqV (ss a) (ss b) = decide (a = b) := by
  show (S a == S b) = decide (a = b)
  exact S_beq_eq
theorem inV_ss (x : List Nat) : ∀ l : List (List Nat), inV (ss x) (l.map ss) = decide (x ∈ l)
  | [] => by simp [inV]
  | y :: l => by
    have e : inV (ss x) ((y :: l).map ss) = (eqV (ss y) (ss x) || inV (ss x) (l.map ss)) := rfl
    rw [e, eqV_ss, inV_ss x l, Bool.eq_iff_iff, Bool.or_eq_true, decide_eq_true_iff, decide_eq_true_iff, decide_eq_true_iff, List.mem_cons]
    exact ⟨fun z => z.imp Eq.symm id, fun z => z.imp Eq.symm id⟩
theorem kinds_lit : ([.str "flag", .str "count", .str "once", .str "last", .str "all", .str "maybe"] : List V) = kinds.map ss := by
  rw [lit_flag, lit_count, lit_once, lit_last, lit_all, lit_maybe]
  rfl
theorem arities_lit : ([.str "one", .str "may", .str "many"] : List V) = arities.map ss := by
  rw [lit_one, lit_may, lit_many]
  rfl
theorem valueless_lit : ([.str "flag", .str "count"] : List V) = [kFlag, kCount].map ss := by
  rw [lit_flag, lit_count]
  rfl
theorem lone_lit : ([.str "flag", .str "count", .str "maybe"] : List V) = [kFlag, kCount, kMaybe].map ss := by
  rw [lit_flag, lit_count, lit_maybe]
  rfl
theorem flat_ss : ∀ l : List (List Nat), (l.map ss).all flatV = true
  | [] => rfl
  | _ :: l => flat_ss l
def Opt.ok (o : Opt) : Bool := nameOk o.name && letterOk o.letter && decide (o.kind ∈ kinds)
def OptAt (K : PySem.W.Frag) (H : Hp) (a : Addr) (o : Opt) : Prop := SqT K H a [ss o.name, ss o.letter, ss o.kind]
def PlAt (K : PySem.W.Frag) (H : Hp) (a : Addr) (p : List Nat × List Nat) : Prop := SqT K H a [ss p.1, ss p.2]
def AllAt {α : Type} (R : Addr → α → Prop) : List Addr → List α → Prop := Paired R
def OptsAt (K : PySem.W.Frag) (H : Hp) (a : Addr) (os : List Opt) : Prop := ∃ as : List Addr, SqT K H a (as.map V.ref) ∧ Paired (OptAt K H) as os
def PlsAt (K : PySem.W.Frag) (H : Hp) (a : Addr) (ps : List (List Nat × List Nat)) : Prop := ∃ as : List Addr, SqT K H a (as.map V.ref) ∧ Paired (PlAt K H) as ps
structure Gr where
  opts : List Opt
  pls : List (List Nat × List Nat)
  short : Bool
  mixed : Bool
  minus : Bool
structure GrAt (K : PySem.W.Frag) (H : Hp) (a : Addr) (g : Gr) : Prop where
  ex : ∃ ao ap am, SqT K H a [.ref ao, .ref ap, .ref am] ∧ OptsAt K H ao g.opts ∧ PlsAt K H ap g.pls ∧ SqT K H am [.bl g.short, .bl g.mixed, .bl g.minus]
theorem OptAt.mono {K : PySem.W.Frag} {H H' : Hp} {a : Addr} {o : Opt} (e : Ex H H') (h : OptAt K H a o) : OptAt K H' a o := ex_t e h
theorem PlAt.mono {K : PySem.W.Frag} {H H' : Hp} {a : Addr} {o : List Nat × List Nat} (e : Ex H H') (h : PlAt K H a o) : PlAt K H' a o := ex_t e h
theorem OptsAt.mono {K : PySem.W.Frag} {H H' : Hp} {a : Addr} {os : List Opt} (e : Ex H H') (h : OptsAt K H a os) : OptsAt K H' a os := by
  obtain ⟨as, h1, h2⟩ := h
  exact ⟨as, ex_t e h1, L2.Paired.mapP h2 fun _ _ z => OptAt.mono e z⟩
theorem PlsAt.mono {K : PySem.W.Frag} {H H' : Hp} {a : Addr} {os : List (List Nat × List Nat)} (e : Ex H H') (h : PlsAt K H a os) : PlsAt K H' a os := by
  obtain ⟨as, h1, h2⟩ := h
  exact ⟨as, ex_t e h1, L2.Paired.mapP h2 fun _ _ z => PlAt.mono e z⟩
theorem GrAt.mono {K : PySem.W.Frag} {H H' : Hp} {a : Addr} {g : Gr} (e : Ex H H') (h : GrAt K H a g) : GrAt K H' a g := by
  obtain ⟨ao, ap, am, h1, h2, h3, h4⟩ := h.ex
  exact ⟨ao, ap, am, ex_t e h1, h2.mono e, h3.mono e, ex_t e h4⟩
theorem Paired.at {α β : Type} {R : α → β → Prop} : ∀ {as : List α} {bs : List β} {i : Nat} {b : β}, Paired R as bs → bs[i]? = some b → ∃ a, as[i]? = some a ∧ R a b
  | _, _, _, _, .nil, none_ => by simp at none_
  | _, _, 0, _, .cons first _, e => by
    simp at e
    subst e
    exact ⟨_, rfl, first⟩
  | _, _, i + 1, b, .cons _ t, e => by
    obtain ⟨a, h1, h2⟩ := Paired.at (i := i) (b := b) t (by simpa using e)
    exact ⟨a, by simpa using h1, h2⟩
/-! ### promises -/
def spOneOf (K : PySem.W.Frag) : Sp := spP 2 fun vs H v => ∃ (l : List Nat) (a : Addr) (m : List (List Nat)), vs = [ss l, .ref a] ∧ SqT K H a (m.map ss) ∧ v = .bl (decide (l ∈ m))
def spTupOf (K : PySem.W.Frag) : Sp := spP 2 fun vs H v => ∃ (a : Addr) (xs : List V) (n : Nat), vs = [.ref a, .int n] ∧ SqT K H a xs ∧ v = .bl (decide (xs.length = n))
theorem ty_tup {K : PySem.W.Frag} {H : Hp} {a : Addr} {xs : List V} (h : SqT K H a xs) : TyX K H (.ref a) (.type "tuple") := by
  rcases h with (h | ⟨o, h⟩) | ⟨o, its, n, h1, h2, _⟩
  · exact .base (.tup h)
  · exact .fTuple h
  · exact .kTuple h1 h2
end KL

set_option Elab.async false
set_option maxRecDepth 100000
set_option maxHeartbeats 4000000
namespace K9
open PySem PySem.Spec PyProof.Rows L2 SX Evl KL
section
variable {P : Program} {w : World} {K : PySem.W.Frag} {mg : Str → Option Value} {base : Heap} {f : Addr} {fd : FuncData} {aK aA aV aL : Addr}
abbrev s_is_name : Stmt := top 16
theorem sc_is_name : FnScope ["thing"] ["thing"] (C8.fnScope s_is_name) := C8.fnScope_by (by decide +kernel)
theorem ok_name (F : C8.Def K mg "is_name" s_is_name f fd) (b : Binds K fd ["thing"] []) (B : Blt mg) (T : Csts K mg aK aA aV aL) (C_made_of : C8.Cal P w K mg base 1 "made_of" spMade []) : C8.Cal P w K mg base 2 "is_name" spName [] :=
  C8.cal0 F b .nil sc_is_name (fun vs H Q E h => h.1) fun cdv A outer s H vs Q E hr h => by
    have nd := sc_is_name.nd
    obtain ⟨_, v, ⟨l, rfl, hl, rfl⟩, q⟩ := h
    refine ⟨_, (pss_cons (ps_if (PW.pt (pw_or (pt_not (pt_val (pe_callB (id := "isinstance") call_isi (by rfl) B.isinstance_ (by decide +kernel) (pa_cons (pv 0) (pa_cons (pe_bltn (v := .ty "str") (by rfl) B.str_ (by decide +kernel) rfl) pa_nil))))) (pw_or1 (pt_not (pt_chain op_le op_le (C8.pe_gc rfl (T.g_LEAST_NAME)) (pe_callB (id := "len") call_len_str (by rfl) B.len_ (by decide +kernel) (pa_cons (pv 0) pa_nil)) (C8.pe_gc rfl (T.g_MOST_NAME))))))) (pss_one (ps_ret pe_bl)) pss_nil)
      (pss_one (ps_ret (pe_and (C8.pe_c C_made_of hr (by decide) rfl (pa_cons (pv 0) (pa_cons (C8.pe_gc rfl (T.g_NAME_SIGNS)) pa_nil))) (pe_and (pe_cmpR op_ne (pe_ix ix_str (pv 0) pe_int (fun _ _ => rfl)) pe_str (nomark _)) (pe_one (pe_cmpR op_ne (pe_ix ix_str (pv 0) (pe_un un_neg pe_int) (fun _ _ => rfl)) pe_str (nomark _)))))))), ?_⟩
    have no : nameOk l = false → Q (.bl false) H := fun e => by
      have z := q H (Ex.refl _)
      rwa [e] at z
    refine ⟨_, rfl, _, _, _, _, true, rfl, .ty "str", isStr _, kStr, true, rfl, iteF ?_⟩
    refine ⟨_, rfl, _, rfl, len1000 hl, _, _, rfl, rfl, _, rfl, ?_⟩
    rw [S_len]
    by_cases h2 : 2 ≤ l.length
    · rw [decide_eq_true (show (2 : Int) ≤ (l.length : Int) by omega)]
      refine iteT ⟨_, _, rfl, rfl, _, rfl, ?_⟩
      by_cases h12 : l.length ≤ 12
      · rw [decide_eq_true (show (l.length : Int) ≤ 12 by omega)]
        refine iteF ?_
        refine ⟨_, rfl, rfl, _, ⟨l, _, rfl, hl, rfl⟩, fun H2 e2 => ⟨_, rfl, ?_⟩⟩
        cases hm : l.all (mem sgName) with
        | false => exact iteF (by have z := q H2 e2; rwa [show nameOk l = false by simp [nameOk, hm]] at z)
        | true =>
          refine iteT ?_
          have hne : l ≠ [] := fun z => by rw [z] at h2; simp at h2
          obtain ⟨c, hc⟩ : ∃ c, l.head? = some c := ⟨l.head hne, List.head?_eq_some_head hne⟩
          obtain ⟨d, hd⟩ : ∃ d, l.getLast? = some d := ⟨l.getLast hne, List.getLast?_eq_some_getLast hne⟩
          refine ⟨_, rfl, _, _, _, rfl, rfl, len1000 hl, head_at hc, rfl, _, rfl, ?_⟩
          rw [vs_ch lit_dash]
          by_cases h45 : c = 45
          · rw [decide_eq_true h45]
            exact iteF (by have z := q H2 e2; rwa [show nameOk l = false by simp [nameOk, hc, h45]] at z)
          · rw [decide_eq_false h45]
            refine iteT ?_
            refine ⟨_, rfl, _, rfl, _, _, _, rfl, rfl, len1000 hl, last_at hd, rfl, ?_⟩
            rw [vs_ch lit_dash]
            have z := q H2 e2
            have e : nameOk l = !decide (d = 45) := by
              unfold nameOk
              rw [hm, hc, hd]
              simp [h2, h12, h45]
            rwa [e] at z
      · rw [decide_eq_false (show ¬ (l.length : Int) ≤ 12 by omega)]
        exact iteT (no (by simp [nameOk, h12]))
    · rw [decide_eq_false (show ¬ (2 : Int) ≤ (l.length : Int) by omega)]
      refine iteF ⟨_, rfl, iteT (no (by simp [nameOk, h2]))⟩
abbrev s_is_letter : Stmt := top 17
theorem sc_is_letter : FnScope ["thing"] ["thing"] (C8.fnScope s_is_letter) := C8.fnScope_by (by decide +kernel)
theorem ok_letter (F : C8.Def K mg "is_letter" s_is_letter f fd) (b : Binds K fd ["thing"] []) (B : Blt mg) (T : Csts K mg aK aA aV aL) (C_made_of : C8.Cal P w K mg base 1 "made_of" spMade []) : C8.Cal P w K mg base 2 "is_letter" spLetter [] :=
  C8.cal0 F b .nil sc_is_letter (fun vs H Q E h => h.1) fun cdv A outer s H vs Q E hr h => by
    have nd := sc_is_letter.nd
    obtain ⟨_, v, ⟨l, rfl, hl, rfl⟩, q⟩ := h
    refine ⟨_, (pss_one (ps_ret (pe_and (pe_callB (id := "isinstance") call_isi (by rfl) B.isinstance_ (by decide +kernel) (pa_cons (pv 0) (pa_cons (pe_bltn (v := .ty "str") (by rfl) B.str_ (by decide +kernel) rfl) pa_nil))) (pe_and (pe_cmpR op_le (pe_callB (id := "len") call_len_str (by rfl) B.len_ (by decide +kernel) (pa_cons (pv 0) pa_nil)) pe_int (nomark _)) (pe_one (C8.pe_c C_made_of hr (by decide) rfl (pa_cons (pv 0) (pa_cons (C8.pe_gc rfl (T.g_LETTERS)) pa_nil)))))))), ?_⟩
    refine ⟨_, rfl, _, _, _, _, true, rfl, .ty "str", isStr _, kStr, true, rfl, iteT ?_⟩
    refine ⟨_, rfl, _, rfl, len1000 hl, _, _, rfl, rfl, _, rfl, ?_⟩
    rw [S_len]
    by_cases h1 : l.length ≤ 1
    · rw [decide_eq_true (show (l.length : Int) ≤ 1 by omega)]
      refine iteT ⟨_, rfl, rfl, _, ⟨l, _, rfl, hl, rfl⟩, fun H2 e2 => ?_⟩
      have z := q H2 e2
      rwa [show letterOk l = l.all (mem sgLetter) by simp [letterOk, h1]] at z
    · rw [decide_eq_false (show ¬ (l.length : Int) ≤ 1 by omega)]
      refine iteF ?_
      have z := q _ (Ex.refl _)
      rwa [show letterOk l = false by simp [letterOk, h1]] at z
abbrev s_is_dashed : Stmt := top 18
theorem sc_is_dashed : FnScope ["word"] ["word"] (C8.fnScope s_is_dashed) := C8.fnScope_by (by decide +kernel)
theorem ok_dashed (F : C8.Def K mg "is_dashed" s_is_dashed f fd) (b : Binds K fd ["word"] []) (B : Blt mg) : C8.Cal P w K mg base 1 "is_dashed" spDashed [] :=
  C8.cal0 F b .nil sc_is_dashed (fun vs H Q E h => h.1) fun cdv A outer s H vs Q E hr h => by
    have nd := sc_is_dashed.nd
    obtain ⟨_, v, ⟨l, rfl, hl, rfl⟩, q⟩ := h
    refine ⟨_, (pss_one (ps_ret (pe_and (pe_m1 PySem.F.slot_str_startswith PySem.F.type_str_startswith mt_startswith (pv 0) pe_str) (pe_one (pe_cmpR op_ne (pv 0) pe_str (nomark _)))))), ?_⟩
    have z := q _ (Ex.refl _)
    refine ⟨_, rfl, ⟨_, rfl⟩, _, _, rfl, rfl, _, rfl, ?_⟩
    rw [lit_dash, st_S, show [45].length = 1 from rfl, take1]
    unfold dashed at z
    by_cases h : l.head? = some 45
    · rw [decide_eq_true h]
      refine iteT ⟨_, rfl, rfl, ?_⟩
      rw [ss_eq]
      rw [decide_eq_true h, Bool.true_and] at z
      simpa using z
    · rw [decide_eq_false h]
      refine iteF ?_
      rwa [decide_eq_false h, Bool.false_and] at z
abbrev s_is_number : Stmt := top 19
theorem sc_is_number : FnScope ["word"] ["word"] (C8.fnScope s_is_number) := C8.fnScope_by (by decide +kernel)
theorem ok_number (F : C8.Def K mg "is_number" s_is_number f fd) (b : Binds K fd ["word"] []) (B : Blt mg) (T : Csts K mg aK aA aV aL) (C_made_of : C8.Cal P w K mg base 1 "made_of" spMade []) (C_is_dashed : C8.Cal P w K mg base 1 "is_dashed" spDashed []) : C8.Cal P w K mg base 2 "is_number" spNumber [] :=
  C8.cal0 F b .nil sc_is_number (fun vs H Q E h => h.1) fun cdv A outer s H vs Q E hr h => by
    have nd := sc_is_number.nd
    obtain ⟨_, v, ⟨l, rfl, hl, rfl⟩, q⟩ := h
    refine ⟨_, (pss_one (ps_ret (pe_and (C8.pe_c C_is_dashed hr (by decide) rfl (pa_cons (pv 0) pa_nil)) (pe_one (C8.pe_c C_made_of hr (by decide) rfl (pa_cons (pe_slice C8.sl_txt (pv 0) (po_some pe_int) po_none) (pa_cons (C8.pe_gc rfl (T.g_FIGURES)) pa_nil))))))), ?_⟩
    refine ⟨_, rfl, rfl, _, ⟨l, rfl, hl, rfl⟩, fun H1 e1 => ⟨_, rfl, ?_⟩⟩
    have z := q
    unfold number at z
    cases hd : dashed l with
    | false =>
      rw [hd, Bool.false_and] at z
      exact iteF (z H1 e1)
    | true =>
      rw [hd, Bool.true_and] at z
      refine iteT ⟨_, rfl, _, rfl, _, rfl, len1000 hl, ?_⟩
      rw [slice_from (by decide)]
      exact ⟨rfl, _, ⟨_, _, rfl, by rw [List.length_drop]; omega, rfl⟩, fun H2 e2 => z H2 (e1.trans e2)⟩
abbrev s_is_one_of : Stmt := top 26
theorem sc_is_one_of : FnScope ["thing", "words"] ["thing", "words"] (C8.fnScope s_is_one_of) := C8.fnScope_by (by decide +kernel)
theorem ok_oneOf (F : C8.Def K mg "is_one_of" s_is_one_of f fd) (b : Binds K fd ["thing", "words"] []) (B : Blt mg) : C8.Cal P w K mg base 1 "is_one_of" (spOneOf K) [] :=
  C8.cal0 F b .nil sc_is_one_of (fun vs H Q E h => h.1) fun cdv A outer s H vs Q E hr h => by
    have nd := sc_is_one_of.nd
    obtain ⟨_, v, ⟨l, a, m, rfl, ha, rfl⟩, q⟩ := h
    refine ⟨_, (pss_one (ps_ret (pe_and (pe_callB (id := "isinstance") call_isi (by rfl) B.isinstance_ (by decide +kernel) (pa_cons (pv 0) (pa_cons (pe_bltn (v := .ty "str") (by rfl) B.str_ (by decide +kernel) rfl) pa_nil))) (pe_one (pe_cmpR op_in_seq (pv 0) (pv 1) (by rfl)))))), ?_⟩
    refine ⟨_, rfl, _, _, _, _, true, rfl, .ty "str", isStr _, kStr, true, rfl, iteT ?_⟩
    refine ⟨_, rfl, _, rfl, a, _, rfl, .inr ha, rfl, flat_ss m, ?_⟩
    have z := q H (Ex.refl _)
    rw [inV_ss]
    exact z
abbrev s_is_tuple_of : Stmt := top 27
theorem sc_is_tuple_of : FnScope ["thing", "count"] ["thing", "count"] (C8.fnScope s_is_tuple_of) := C8.fnScope_by (by decide +kernel)
theorem ok_tupOf (F : C8.Def K mg "is_tuple_of" s_is_tuple_of f fd) (b : Binds K fd ["thing", "count"] []) (B : Blt mg) : C8.Cal P w K mg base 1 "is_tuple_of" (spTupOf K) [] :=
  C8.cal0 F b .nil sc_is_tuple_of (fun vs H Q E h => h.1) fun cdv A outer s H vs Q E hr h => by
    have nd := sc_is_tuple_of.nd
    obtain ⟨_, v, ⟨a, xs, n, rfl, ha, rfl⟩, q⟩ := h
    refine ⟨_, (pss_one (ps_ret (pe_and (pe_callB (id := "isinstance") call_isi (by rfl) B.isinstance_ (by decide +kernel) (pa_cons (pv 0) (pa_cons (pe_bltn (v := .ty "tuple") (by rfl) B.tuple_ (by decide +kernel) rfl) pa_nil))) (pe_one (pe_cmpR op_eq (pe_callB (id := "len") call_len_seq (by rfl) B.len_ (by decide +kernel) (pa_cons (pv 0) pa_nil)) (pv 1) (nomark _)))))), ?_⟩
    refine ⟨_, rfl, _, _, _, _, true, rfl, .ty "tuple", ty_tup ha, kTup, true, rfl, iteT ?_⟩
    refine ⟨_, rfl, a, xs, rfl, .inr ha, _, rfl, rfl, ?_⟩
    have z := q H (Ex.refl _)
    have e : decide (V.int (xs.length : Int) = V.int (n : Int)) = decide (xs.length = n) := by
      rw [Bool.eq_iff_iff]
      simp
      omega
    rw [e]
    exact z
end
end K9

set_option Elab.async false
set_option maxRecDepth 100000
set_option maxHeartbeats 4000000
/-! for k, x in enumerate(t), t a tuple -/
namespace KL
open PySem PySem.Spec PyProof.Rows L2 SX Evl
section
variable {prog : Program} {w : World} {A : Around} {E : Value → Shared → Prop} {s : Shared} {it t : Addr} {i : Nat} {items : Array Value}
theorem tnext_go {x : Value} {Q : Value → Shared → Prop} (hi : s.heap.IsTupleIter it t i) (ht : s.heap.IsTuple t items) (hx : items[i]? = some x)
    (goal : ∀ h', h'.IsTupleIter it t (i + 1) → Heap.SameBut it s.heap h' → Q x { s with heap := h' }) :
    wpAny (model prog w) A (Builtin.SmallTypes.nextOf (Value.ref it)) Q E s := by
  obtain ⟨oi, gi, ci, di⟩ := id hi
  obtain ⟨ot, gt, ct, nt, dt⟩ := ht
  have ty : s.TypeIs (.ref it) "tuple_iterator" := ⟨oi, gi, ci⟩
  show wpAny _ _ (Builtin.SmallTypes.nextOf _) _ _ _
  rw [Builtin.SmallTypes.nextOf]
  refine wpAny_bind (wpAny_callSpecial?_slot (name := Str.ofString "__next__") ty slot_tupleiter_next (wpAny_call_entry slot_tupleiter_next ty entry_tupleiter_next ?_ (args_tupleiter_next _)))
  refine wpAny_bind (m := field (.ref it) 0) (wpAny_field gi di (x := .ref t) rfl ?_)
  rw [if_neg (show ¬ ((Value.ref t == Value.none) = true) from fun z => Bool.false_ne_true z)]
  refine wpAny_bind (m := field (.ref it) 1) (wpAny_field gi di (x := .int i 0) rfl ?_)
  refine wpAny_bind (m := seqItems? (.ref t)) (wpAny_seqItems gt dt ?_)
  simp only [hx, Int.toNat_natCast]
  refine wpAny_bind (wpAny_setField gi di (by simp) (wpAny_pure ⟨x, rfl, wpAny_pure (goal _ ⟨_, Heap.get?_update_self _ gi (Obj.isFreed_of_fields (Obj.data_mapFields di _)), (Obj.cls_mapFields ..).trans ci, ?_⟩ (Heap.SameBut.update ..))⟩))
  rw [Obj.data_mapFields di]
  simp [rawInt]
theorem tnext_end {Q : Value → Shared → Prop} (hh : A.handled = none) (hi : s.heap.IsTupleIter it t i) (ht : s.heap.IsTuple t items) (hx : items[i]? = none)
    (goal : ∀ h' e, Heap.ExtBut it s.heap h' → (∃ o, h'.get? e = some o ∧ o.cls = .type "StopIteration") → E (.ref e) { s with heap := h' }) :
    wpAny (model prog w) A (Builtin.SmallTypes.nextOf (Value.ref it)) Q E s := by
  obtain ⟨oi, gi, ci, di⟩ := id hi
  obtain ⟨ot, gt, ct, nt, dt⟩ := ht
  have ty : s.TypeIs (.ref it) "tuple_iterator" := ⟨oi, gi, ci⟩
  show wpAny _ _ (Builtin.SmallTypes.nextOf _) _ _ _
  rw [Builtin.SmallTypes.nextOf]
  refine wpAny_bind (wpAny_callSpecial?_slot (name := Str.ofString "__next__") ty slot_tupleiter_next (wpAny_call_entry slot_tupleiter_next ty entry_tupleiter_next ?_ (args_tupleiter_next _)))
  refine wpAny_bind (m := field (.ref it) 0) (wpAny_field gi di (x := .ref t) rfl ?_)
  rw [if_neg (show ¬ ((Value.ref t == Value.none) = true) from fun z => Bool.false_ne_true z)]
  refine wpAny_bind (m := field (.ref it) 1) (wpAny_field gi di (x := .int i 0) rfl ?_)
  refine wpAny_bind (m := seqItems? (.ref t)) (wpAny_seqItems gt dt ?_)
  simp only [hx, Int.toNat_natCast]
  refine wpAny_bind (wpAny_rule (wpAny_bind (wpAny_setField gi di (by simp) ?_)))
  refine wpAny_bind (m := newExc (.type "StopIteration") []) ?_
  simp only [newExc, newTuple]
  apply wpAny_bind
  refine wpAny_newObj_type ?_ (by size_fits)
  refine wpAny_bind (m := firstArgMember _ _) (wpAny_of_eq (a := Value.none) (by first | rfl | (simp only [firstArgMember]; rfl)) (wpAny_newObj_type ?_ (by size_fits)))
  simp only [raiseNew]
  apply wpAny_bind
  refine wpAny_handled ?_
  have nh : A.in1.handled = none := hh
  rw [nh]
  exact wpAny_bind (wpAny_pure (wpAny_throw (goal _ _ (((Heap.SameBut.update ..).extBut.push _).push _) ⟨_, Heap.get?_push_size _ rfl, rfl⟩)))
end
theorem drawsTup {prog : Program} {w : World} {A : Around} (hh : A.handled = none) (it t : Addr) (hne : t ≠ it) (items : Array Value) :
    Draws prog w A it [it, t] items.size (fun i v => items[i]? = some v) (fun i h => h.IsTupleIter it t i ∧ h.IsTuple t items) :=
  { live := fun _ _ st => by obtain ⟨⟨o, g, _⟩, _⟩ := st; exact ⟨o, g⟩
    frame := fun _ _ _ st kp => by
      obtain ⟨⟨o, g, r⟩, ⟨o', g', r'⟩⟩ := st
      exact ⟨⟨o, kp it (by simp) o g, r⟩, ⟨o', kp t (by simp) o' g', r'⟩⟩
    item := fun i s Q E lt st goal => tnext_go st.1 st.2 (x := items[i]) (by simp [lt]) fun h' a b => by
      refine goal _ h' s.toks (by simp [lt]) ⟨a, ?_⟩ b
      obtain ⟨o', g', r'⟩ := st.2
      exact ⟨o', b.extBut t o' hne g', r'⟩
    done := fun s Q E st goal => tnext_end hh st.1 st.2 (by simp) goal }
/-! ### enumerate(t) is made -/
theorem meetsEnumT (l : Addr) (items : Array Value) (n : Nat) (dct : Option Addr) (sl : Array (Option Value)) :
    Meets (Builtin.«enumerate.__new__» ⟨[.type "enumerate", .ref l], []⟩) (fun _ R s => s.heap.get? l = some { cls := .type "tuple", dict := dct, data := .seq items n, slots := sl } ∧
      R (.ok (.ret (.ref (s.heap.push { cls := .type "tuple_iterator", data := .fields #[.ref l, .int 0 0] }).objs.size)))
        { s with heap := (s.heap.push { cls := .type "tuple_iterator", data := .fields #[.ref l, .int 0 0] }).push { cls := .type "enumerate", data := .fields #[.none, .bool false, .ref s.heap.objs.size, rawInt 0, .none, .none] } }) :=
  .of_wp fun prog w A R sh h => by
    obtain ⟨hp, gs, dd, tk, os⟩ := sh
    obtain ⟨ht, h⟩ := h
    have hsub := sub_enumerate
    have isT : Heap.IsTuple (Shared.heap ⟨hp, gs, dd, tk, os⟩) l items := ⟨_, ht, rfl, n, rfl⟩
    wp_walk using AutoSeq1.wpAny_loadPart' ht
    refine wpAny_stack_any fun _ => ?_
    refine wpAny_pure ?_
    split
    · rename_i c _ _ _ _ _
      cases c == .type "enumerate"
      all_goals
        wp_walk using AutoSeq1.wpAny_loadPart' ht, wpAny_pyIter_tuple isT
        exact ⟨_, rfl, h⟩
    · wp_walk using AutoSeq1.wpAny_loadPart' ht, wpAny_pyIter_tuple isT
      exact ⟨_, rfl, h⟩
theorem callEnumT {prog : Program} {w : World} {A : Around} {E : Value → Shared → Prop} {s : Shared} {l : Addr} {items : Array Value} {Q : Value → Shared → Prop} (isT : s.heap.IsTuple l items)
    (goal : ∀ h', IsEnum h' (s.heap.objs.size + 1) s.heap.objs.size 0 .none → h'.IsTupleIter s.heap.objs.size l 0 → (∀ b o, s.heap.get? b = some o → h'.get? b = some o) → Q (.ref (s.heap.objs.size + 1)) { s with heap := h' }) :
    wpAny (model prog w) A (call (Value.type "enumerate") [Value.ref l]) Q E s := by
  obtain ⟨⟨c, dct, dt, sl⟩, hl, hc, n, hd⟩ := isT
  obtain rfl : c = .type "tuple" := hc
  obtain rfl : dt = .seq items n := hd
  refine callType_new F.called_enumerate (by decide) (F.typeCall_enumerate_1 _) (F.newCall_enumerate_1 _) (fun obj => F.args_object_init_2 obj _) F.entry_enumerate_new (meetsEnumT l items n dct sl) ⟨hl, ?_⟩
  generalize e1 : s.heap.push { cls := .type "tuple_iterator", data := .fields #[.ref l, .int 0 0] } = h1
  have z1 : h1.objs.size = s.heap.objs.size + 1 := by rw [← e1]; exact Heap.size_push ..
  have g1 : h1.get? s.heap.objs.size = some { cls := .type "tuple_iterator", data := .fields #[.ref l, .int 0 0] } := by rw [← e1]; exact Heap.get?_push_size _ rfl
  have k1 : ∀ b o, s.heap.get? b = some o → h1.get? b = some o := fun b o q => by rw [← e1]; exact Heap.get?_push_of_some _ q
  show _ ∧ _
  have g2 : IsEnum (h1.push { cls := .type "enumerate", data := .fields #[.none, .bool false, .ref s.heap.objs.size, rawInt 0, .none, .none] }) (s.heap.objs.size + 1) s.heap.objs.size 0 .none := by
    have q := Heap.get?_push_size h1 (o := { cls := .type "enumerate", data := .fields #[.none, .bool false, .ref s.heap.objs.size, rawInt 0, .none, .none] }) rfl
    rw [z1] at q
    exact q
  rw [z1]
  exact ⟨⟨_, g2, rfl⟩, goal _ g2 ⟨_, Heap.get?_push_of_some _ g1, rfl, rfl⟩ fun b o q => Heap.get?_push_of_some _ (k1 b o q)⟩
/-! ### the walk -/
/-- the tuple at a, each item in a new pair with its number -/
def IteT (K : PySem.W.Frag) (a : Addr) : It :=
  ⟨fun i H => ∃ (xs : List V) (x : V), SqT K H a xs ∧ xs[i]? = some x,
   fun i H v H' => ∃ T x, v = .ref T ∧ H T = none ∧ H' = upd H T (.tup [.int (i : Nat), x]) ∧ ∀ xs, SqT K H a xs → xs[i]? = some x,
   fun i H => ∃ xs : List V, SqT K H a xs ∧ xs.length ≤ i⟩
theorem turnEnumT {P : Program} {w : World} {K : PySem.W.Frag} {elts : List Expr} {kk : Nat} {tpos : Pos} (a e it : Addr) :
    Turn P w K (.Tuple elts kk tpos) (IteT K a) [e, it] e (fun i h => (∃ old, IsEnum h e it ((i : Nat) : Int) old) ∧ h.IsTupleIter it a i ∧ e ≠ it ∧ a ≠ it ∧ a ≠ e) :=
  { mem := List.mem_cons_self
    obj := fun i h st b hb => by
      obtain ⟨⟨old, ge⟩, ⟨oi, gi, ci, di⟩, _⟩ := st
      have hm2 := List.mem_cons.mp hb
      rcases hm2 with z | z
      · rw [z]
        exact ⟨_, ge, fun v q => nomatch q⟩
      · have eb := List.mem_singleton.mp z
        rw [eb]
        exact ⟨oi, gi, fun v q => by rw [di] at q; cases q⟩
    keep := fun i h h' st kp => by
      obtain ⟨⟨old, ge⟩, ⟨oi, gi, r⟩, ne⟩ := st
      exact ⟨⟨old, kp e List.mem_cons_self _ ge⟩, ⟨oi, kp it (List.mem_cons_of_mem _ List.mem_cons_self) _ gi, r⟩, ne⟩
    self := fun A i s Q E st goal => by
      obtain ⟨⟨_, ge⟩, _⟩ := st
      exact wpAny_pyIter_enum ge goal
    item := by
      intro X hP hw hK hc i pins s σ H E I free st hg
      subst hP hw hK
      obtain ⟨⟨old, ge⟩, hi, ne, na, na2⟩ := st
      obtain ⟨xs, x, sq, hx⟩ := hg
      obtain ⟨its, rv, p, hz⟩ := I.tuple sq
      have gx := rv.get hx
      obtain ⟨u, hu, ru⟩ := gx
      have le : e < s.heap.objs.size := Heap.lt_size ge
      have li : it < s.heap.objs.size := by obtain ⟨_, q, _⟩ := hi; exact Heap.lt_size q
      have lt : i < its.toArray.size := by
        have := (List.getElem?_eq_some_iff.mp hu).1
        simpa using this
      refine wpAny_pyNext_enum_itemD (drawsTup (A := X.A.in1) (show X.A.in1.handled = none from I.ok.hd hc) it a na its.toArray) ge ⟨hi, p⟩ lt ne (by simp [ne, Ne.symm na2]) fun u' h' tk hu' ho hst hT hsz hk => ?_
      have eu : u' = u := by
        have h1 : its.toArray[i]? = some u := by simpa using hu
        rw [h1] at hu'
        exact (Option.some.inj hu').symm
      subst eu
      refine ⟨_, rfl, wpAny_letOwnedTupleGo_enum (s := { s with heap := h', toks := tk + 1 }) ho fun h'' he' sb => ?_⟩
      have hT2 : h''.get? s.heap.objs.size = some { cls := .type "tuple", data := .seq #[.int i tk, u'] } := (sb.2 _ (Nat.ne_of_gt le)).trans hT
      have isNew : ObjOk X.prog X.w (upd H s.heap.objs.size (.tup [.int (i : Nat), x])) h'' s.heap.objs.size (.tup [.int (i : Nat), x]) :=
        ⟨by show 2 ≤ sizeLine; decide, [.int i tk, u'], .cons ⟨_, rfl⟩ (.cons ru .nil), ⟨_, hT2, rfl, _, rfl⟩⟩
      have I2 : Inv X pins σ (upd H s.heap.objs.size (.tup [.int (i : Nat), x])) { s with heap := h'', toks := tk + 1 } :=
        I.turnedNew (ch := [e, it]) (fun b ob hb q => (sb.2 b (fun z => hb (by simp [z]))).trans (hk b ob (fun z => hb (by simp [z])) (fun z => hb (by simp [z])) q)) free (Nat.le_refl _) isNew
      refine ⟨.ref s.heap.objs.size, _, I2, rfl, ⟨_, x, rfl, I.hok.fresh (Nat.le_refl _), rfl, fun ys hy => by rw [I.tuple_inj hy sq]; exact hx⟩, ⟨⟨u', ?_⟩, ?_, ne, na, na2⟩, fun b hb => ?_⟩
      · rw [show ((i + 1 : Nat) : Int) = (i : Int) + 1 by omega]
        exact he'
      · obtain ⟨o2, g2, r2⟩ := hst.1
        exact ⟨o2, (sb.2 it (Ne.symm ne)).trans g2, r2⟩
      · have lb : b < s.heap.objs.size := by
          have hm2 := List.mem_cons.mp hb
          rcases hm2 with z | z
          · exact z ▸ le
          · exact List.mem_singleton.mp z ▸ li
        rw [upd_ne (Nat.ne_of_lt lb)]
        exact (free b hb).1
    done := by
      intro X hP hw hK hc i pins s σ H E I free st hg
      subst hP hw hK
      obtain ⟨⟨old, ge⟩, hi, ne, na, na2⟩ := st
      obtain ⟨xs, sq, hx⟩ := hg
      obtain ⟨its, rv, p, hz⟩ := I.tuple sq
      obtain ⟨f0, f1, f2, f3, f4, f5⟩ := free it (List.mem_cons_of_mem _ List.mem_cons_self)
      have ln := rv.length
      have dn : wpAny (model X.prog X.w) X.A (pyNext (.ref e)) (fun r s1 => r = none ∧ Inv X pins σ H s1) E s := by
        have hT : s.TypeIs (.ref e) "enumerate" := ⟨_, ge, rfl⟩
        unfold pyNext
        refine wpAny_bind (wpAny_attempt (wpAny_callSpecial?_slot (name := Str.ofString "__next__") hT F.slot_enumerate_next (wpAny_call_entry F.slot_enumerate_next hT F.entry_enumerate_next ?_ (F.args_enumerate_next_1 _))))
        refine wpAny_bind (m := field (.ref e) 2) (wpAny_field ge rfl (x := .ref it) rfl ?_)
        refine wpAny_bind (tnext_end (A := X.A.in1) (show X.A.in1.handled = none from I.ok.hd hc) hi p (by simp; omega) fun h' x ex ho => ?_)
        obtain ⟨o, g, c⟩ := ho
        refine wpAny_bind (wpAny_isInstance (T := "StopIteration") (b := true) ⟨o, g, c⟩ isSubtype_stop ?_)
        exact wpAny_pure ⟨rfl, I.turned (t' := s.toks) (fun b o hb q => ex b o hb q) f0 f1 f3 f4 f5⟩
      exact dn }
def iEnumT (K : PySem.W.Frag) (ta : TA) : TI := fun σ H R => ta σ H fun vs H1 => ∃ a xs, vs = [.ref a] ∧ SqT K H1 a xs ∧ R (IteT K a) H1
theorem pi_enumT {X : Cx} {e : Expr} {ta : TA} {p pos tpos : Pos} {elts : List Expr} {kk : Nat} (hg : Gl X "enumerate") (hm : X.mg "enumerate" = none) (ha : PA X [e] ta) (hs : starEach [e] X.env = [(false, eval e X.env)] := by rfl) :
    PI X (.Tuple elts kk tpos) (.Call (.Name "enumerate" p) [e] [] pos) (iEnumT X.K ta) := by
  refine ⟨fun pins s σ H R I want => ?_⟩
  refine Call_ (ld_blt I hg hm boot_enumerate (PyProof.Rows.callWith_type1 (thn (ha.run pos pins s σ H _ I want) fun us s1 ⟨vs, H1, I1, rel, q⟩ => ?_) hs rfl))
  obtain ⟨a, xs, ev, sq, q⟩ := q
  subst ev
  obtain ⟨u, rfl, ru⟩ := vals1 rel
  have eu : u = Value.ref a := ru
  cases eu
  obtain ⟨its, rv, isT, hz⟩ := I1.tuple sq
  have la : a < s1.heap.objs.size := isT.lt
  refine callEnumT (show s1.heap.IsTuple a its.toArray from isT) fun h' ge gi kp => wpAny_pyIter_enum ge ?_
  refine ⟨s1.heap.objs.size + 1, [s1.heap.objs.size + 1, s1.heap.objs.size], _, _, H1, rfl, I1.kept (t' := s1.toks) kp, turnEnumT a (s1.heap.objs.size + 1) s1.heap.objs.size, ⟨⟨.none, ge⟩, gi, Nat.succ_ne_self _, Nat.ne_of_lt la, Nat.ne_of_lt (Nat.lt_succ_of_lt la)⟩, fun b hb => ?_, q⟩
  have lb : s1.heap.objs.size ≤ b := by
    have hm2 := List.mem_cons.mp hb
    rcases hm2 with z | z
    · rw [z]; exact Nat.le_succ _
    · rw [List.mem_singleton.mp z]; exact Nat.le_refl _
  exact I1.fpOk lb (I1.hok.fresh lb)
theorem walk_enumT {K : PySem.W.Frag} {a : Addr} {xs : List V} : L2.Walk (IteT K a) xs.length (fun H => SqT K H a xs) (YPair (fun i => some (.int (i : Nat))) (fun i => xs[i]?)) :=
  { goes := fun i _ hi q => ⟨xs, xs[i], q, List.getElem?_eq_getElem hi⟩
    stops := fun _ q => ⟨xs, q, Nat.le_refl _⟩
    yields := fun i H v H' _ q y => by
      obtain ⟨Tn, x, h1, h2, h3, h4⟩ := y
      exact ⟨Tn, .int (i : Nat), x, h1, h2, h3, rfl, h4 xs q⟩ }
end KL

set_option Elab.async false
set_option maxRecDepth 100000
set_option maxHeartbeats 4000000
namespace KL
open PySem PySem.Spec PyProof.Rows L2 SX Evl
abbrev kS (l : List Nat) : Key := Sum.inr (S l)
theorem kS_inj {a b : List Nat} (h : kS a = kS b) : a = b := S_inj (Sum.inr.inj h)
theorem valV_none {κ : Type} [DecidableEq κ] : ∀ {kvs : List (κ × V)} {k : κ}, k ∉ kvs.map (·.1) → valV kvs k = none
  | [], _, _ => rfl
  | (k', v) :: r, k, h => by
    rw [valV_cons, if_neg (fun z => h (by rw [z]; exact List.mem_cons_self))]
    exact valV_none fun m => h (List.mem_cons_of_mem _ m)
/-- the keys of a dict that is filled with the words of a list -/
abbrev ones (l : List (List Nat)) : List (Key × V) := l.map fun x => (kS x, V.bl true)
theorem ones_keys (l : List (List Nat)) : (ones l).map (·.1) = l.map kS := by rw [List.map_map]; rfl
theorem ones_none {l : List (List Nat)} {x : List Nat} (h : x ∉ l) : valV (ones l) (kS x) = none := by
  refine valV_none ?_
  rw [ones_keys]
  intro m
  obtain ⟨y, hy, e⟩ := List.mem_map.mp m
  exact h (kS_inj e ▸ hy)
theorem ones_put {l : List (List Nat)} {x : List Nat} (h : x ∉ l) : putK (ones l) (kS x) (.bl true) = ones (l ++ [x]) := by
  rw [putK_new _ (ones_none h)]
  simp [ones]
theorem take_snoc {α : Type} {l : List α} {i : Nat} {x : α} (h : l[i]? = some x) : l.take (i + 1) = l.take i ++ [x] := by
  rw [List.take_add_one, h]
  rfl
/-- no name twice: the next one is new -/
theorem nd_new {α : Type} [DecidableEq α] {l : List α} {i : Nat} {x : α} (hn : l.Nodup) (h : l[i]? = some x) : x ∉ l.take i := by
  intro m
  obtain ⟨j, hj, e⟩ := List.mem_iff_getElem.mp m
  have hj2 : j < i := by
    rw [List.length_take] at hj
    omega
  have e2 : l[j]? = some x := by
    rw [List.getElem_take] at e
    rw [← e]
    exact List.getElem?_eq_getElem _
  have := nd_ix hn h e2
  omega
structure Gr.Ok (g : Gr) : Prop where
  ol : g.opts.length ≤ 24
  oo : ∀ o ∈ g.opts, o.ok = true
  on : (g.opts.map (·.name)).Nodup
  oz : ((g.opts.map (·.letter)).filter (fun l => decide (l ≠ []))).Nodup
  pl : g.pls.length ≤ 5
  po : ∀ p ∈ g.pls, nameOk p.1 = true ∧ p.2 ∈ arities
  pn : (g.pls.map (·.1)).Nodup
  pm : (g.pls.filter (fun p => decide (p.2 = aMany))).length ≤ 1
def spNeedLine (K : PySem.W.Frag) : Sp := spP 1 fun vs H v => ∃ (a : Addr) (ls : List (List Nat)), vs = [.ref a] ∧ SqT K H a (ls.map ss) ∧ ls.length ≤ 80 ∧ (∀ l ∈ ls, wordOk l = true) ∧ v = .ref a
def spOption (K : PySem.W.Frag) : Sp := spP 1 fun vs H v => ∃ (a : Addr) (o : Opt), vs = [.ref a] ∧ OptAt K H a o ∧ o.ok = true ∧ v = .bl true
def spPlace (K : PySem.W.Frag) : Sp := spP 1 fun vs H v => ∃ (a : Addr) (p : List Nat × List Nat), vs = [.ref a] ∧ PlAt K H a p ∧ nameOk p.1 = true ∧ p.2 ∈ arities ∧ v = .bl true
def spNeedOpts (K : PySem.W.Frag) : Sp := spP 1 fun vs H v => ∃ (a : Addr) (g : Gr), vs = [.ref a] ∧ OptsAt K H a g.opts ∧ g.Ok ∧ v = .non
def spNeedPls (K : PySem.W.Frag) : Sp := spP 1 fun vs H v => ∃ (a : Addr) (g : Gr), vs = [.ref a] ∧ PlsAt K H a g.pls ∧ g.Ok ∧ v = .non
def spNeedModes (K : PySem.W.Frag) : Sp := spP 1 fun vs H v => ∃ (a : Addr) (x y z : Bool), vs = [.ref a] ∧ SqT K H a [.bl x, .bl y, .bl z] ∧ v = .non
def spNeedGr (K : PySem.W.Frag) : Sp := spP 1 fun vs H v => ∃ (a : Addr) (g : Gr), vs = [.ref a] ∧ GrAt K H a g ∧ g.Ok ∧ v = .ref a
theorem wordLen {l : List Nat} (h : wordOk l = true) : l.length ≤ 1000 := by
  unfold wordOk at h
  have := of_decide_eq_true (Bool.and_eq_true_iff.mp h).1
  omega
theorem nameLen {l : List Nat} (h : nameOk l = true) : l.length ≤ 12 := by
  simp only [nameOk, Bool.and_eq_true] at h
  exact of_decide_eq_true h.1.1.1.2
theorem letterLen {l : List Nat} (h : letterOk l = true) : l.length ≤ 1 := of_decide_eq_true (Bool.and_eq_true_iff.mp h).1
end KL

set_option Elab.async false
set_option maxRecDepth 100000
set_option maxHeartbeats 4000000
namespace K9
open PySem PySem.Spec PyProof.Rows L2 SX Evl KL
section
variable {P : Program} {w : World} {K : PySem.W.Frag} {mg : Str → Option Value} {base : Heap} {f : Addr} {fd : FuncData} {aK aA aV aL : Addr}
abbrev s_need_line : Stmt := top 20
theorem sc_need_line : FnScope ["thing", "number", "word"] ["thing"] (C8.fnScope s_need_line) := C8.fnScope_by (by decide +kernel)
theorem ok_needLine (F : C8.Def K mg "need_line" s_need_line f fd) (b : Binds K fd ["thing"] []) (B : Blt mg) (T : Csts K mg aK aA aV aL) (C_is_word : C8.Cal P w K mg base 2 "is_word" spWord []) : C8.Cal P w K mg base 3 "need_line" (spNeedLine K) [] :=
  C8.cal0 F b .nil sc_need_line (fun vs H Q E h => h.1) fun cdv A outer s H vs Q E hr h => by
    have nd := sc_need_line.nd
    obtain ⟨_, v, ⟨a, ls, rfl, ha, hl, hw, rfl⟩, q⟩ := h
    refine ⟨_, (pss_cons (ps_if (PW.pt (pw_or (pt_not (pt_val (pe_callB (id := "isinstance") call_isi (by rfl) B.isinstance_ (by decide +kernel) (pa_cons (pv 0) (pa_cons (pe_bltn (v := .ty "tuple") (by rfl) B.tuple_ (by decide +kernel) rfl) pa_nil))))) (pw_or1 (pt_cmpR op_gt (pe_callB (id := "len") call_len_seq (by rfl) B.len_ (by decide +kernel) (pa_cons (pv 0) pa_nil)) (C8.pe_gc rfl (T.g_MOST_WORDS)) (nomark _))))) (pss_one ps_never) pss_nil)
      (pss_cons (ps_for PassesOwn.never rfl (KL.pi_enumT (by rfl) B.enumerate_ (pa_cons (pv 0) pa_nil)) (pg_tup rfl (pgs_cons (pg_name (i := 1) nd rfl (by first | exact Or.inl rfl | exact Or.inr rfl)) (pgs_cons (pg_name (i := 2) nd rfl (by first | exact Or.inl rfl | exact Or.inr rfl)) pgs_nil))) (pss_one (ps_if (pt_not (pt_val (C8.pe_c C_is_word hr (by decide) rfl (pa_cons (pv 2) pa_nil)))) (pss_one ps_never) pss_nil)))
      (pss_one (ps_ret (pv 0))))), ?_⟩
    refine ⟨_, rfl, _, _, _, _, true, rfl, .ty "tuple", ty_tup ha, kTup, true, rfl, iteF ?_⟩
    refine ⟨_, rfl, a, _, rfl, .inr ha, _, _, rfl, rfl, _, rfl, ?_⟩
    rw [List.length_map, decide_eq_false (show ¬ ((80 : Int) < (ls.length : Int)) by omega)]
    refine iteF ?_
    refine ⟨_, rfl, a, _, rfl, ha, for_it (walk_enumT (xs := ls.map ss)) (fun i σ H1 => ∃ x y, σ = [some (.ref a), x, y] ∧ Ex H H1) ⟨_, _, rfl, Ex.refl _⟩ (fun i σ H1 _ ⟨_, _, _, e⟩ => ex_t e ha) ?_ ?_⟩
    · rintro i x σ H1 H2 hi ⟨x0, y0, rfl, e1⟩ ⟨Tn, x1, y1, rfl, nT, rfl, h1, h2⟩
      cases h1
      have h2 : (ls.map ss)[i]? = some y1 := h2
      rw [List.getElem?_map] at h2
      obtain ⟨l, hll, e⟩ := Option.map_eq_some_iff.mp h2
      subst e
      have hok := hw l (List.mem_of_getElem? hll)
      refine ⟨Tn, _, rfl, st_of upd_same, rfl, _, _, rfl, _, _, rfl, rfl, ?_⟩
      refine ⟨_, rfl, rfl, _, ⟨l, rfl, wordLen hok, rfl⟩, fun H3 e3 => ⟨_, rfl, ?_⟩⟩
      rw [hok]
      exact iteF ⟨_, _, rfl, (e1.trans (Ex.new nT)).trans e3⟩
    · rintro σ H1 ⟨x0, y0, rfl, e1⟩
      exact ⟨_, rfl, q H1 e1⟩
abbrev s_is_option : Stmt := top 28
theorem sc_is_option : FnScope ["thing", "name", "letter", "kind"] ["thing"] (C8.fnScope s_is_option) := C8.fnScope_by (by decide +kernel)
theorem ok_option (F : C8.Def K mg "is_option" s_is_option f fd) (b : Binds K fd ["thing"] []) (B : Blt mg) (T : Csts K mg aK aA aV aL) (C_is_tuple_of : C8.Cal P w K mg base 1 "is_tuple_of" (spTupOf K) []) (C_is_name : C8.Cal P w K mg base 2 "is_name" spName [])
    (C_is_letter : C8.Cal P w K mg base 2 "is_letter" spLetter []) (C_is_one_of : C8.Cal P w K mg base 1 "is_one_of" (spOneOf K) []) : C8.Cal P w K mg base 3 "is_option" (spOption K) [] :=
  C8.cal0 F b .nil sc_is_option (fun vs H Q E h => h.1) fun cdv A outer s H vs Q E hr h => by
    have nd := sc_is_option.nd
    obtain ⟨_, v, ⟨a, o, rfl, ha, hok, rfl⟩, q⟩ := h
    simp only [Opt.ok, Bool.and_eq_true, decide_eq_true_eq] at hok
    obtain ⟨⟨h1, h2⟩, h3⟩ := hok
    refine ⟨_, (pss_cons (ps_if (pt_not (pt_val (C8.pe_c C_is_tuple_of hr (by decide) rfl (pa_cons (pv 0) (pa_cons pe_int pa_nil))))) (pss_one (ps_ret pe_bl)) pss_nil)
      (pss_cons (ps_asg (pv 0) (pg_tup rfl (pgs_cons (pg_name (i := 1) nd rfl (by first | exact Or.inl rfl | exact Or.inr rfl)) (pgs_cons (pg_name (i := 2) nd rfl (by first | exact Or.inl rfl | exact Or.inr rfl)) (pgs_cons (pg_name (i := 3) nd rfl (by first | exact Or.inl rfl | exact Or.inr rfl)) pgs_nil)))))
      (pss_one (ps_ret (pe_and (C8.pe_c C_is_name hr (by decide) rfl (pa_cons (pv 1) pa_nil)) (pe_and (C8.pe_c C_is_letter hr (by decide) rfl (pa_cons (pv 2) pa_nil)) (pe_one (C8.pe_c C_is_one_of hr (by decide) rfl (pa_cons (pv 3) (pa_cons (C8.pe_gc rfl (T.g_KINDS)) pa_nil)))))))))), ?_⟩
    refine ⟨_, rfl, rfl, _, ⟨a, _, 3, rfl, ha, rfl⟩, fun H1 e1 => ⟨_, rfl, ?_⟩⟩
    refine iteF ?_
    refine ⟨_, rfl, a, _, rfl, ex_t e1 ha, rfl, _, _, rfl, _, _, rfl, _, _, rfl, rfl, ?_⟩
    refine ⟨_, rfl, rfl, _, ⟨_, rfl, by have := nameLen h1; omega, rfl⟩, fun H2 e2 => ⟨_, rfl, ?_⟩⟩
    rw [h1]
    refine iteT ⟨_, rfl, rfl, _, ⟨_, rfl, by have := letterLen h2; omega, rfl⟩, fun H3 e3 => ⟨_, rfl, ?_⟩⟩
    rw [h2]
    refine iteT ⟨_, rfl, rfl, _, ⟨_, aK, kinds, rfl, by rw [← kinds_lit]; exact T.t_KINDS _, rfl⟩, fun H4 e4 => ?_⟩
    rw [decide_eq_true h3]
    exact q H4 (((e1.trans e2).trans e3).trans e4)
abbrev s_is_place : Stmt := top 29
theorem sc_is_place : FnScope ["thing", "name", "arity"] ["thing"] (C8.fnScope s_is_place) := C8.fnScope_by (by decide +kernel)
theorem ok_place (F : C8.Def K mg "is_place" s_is_place f fd) (b : Binds K fd ["thing"] []) (B : Blt mg) (T : Csts K mg aK aA aV aL) (C_is_tuple_of : C8.Cal P w K mg base 1 "is_tuple_of" (spTupOf K) []) (C_is_name : C8.Cal P w K mg base 2 "is_name" spName [])
    (C_is_one_of : C8.Cal P w K mg base 1 "is_one_of" (spOneOf K) []) : C8.Cal P w K mg base 3 "is_place" (spPlace K) [] :=
  C8.cal0 F b .nil sc_is_place (fun vs H Q E h => h.1) fun cdv A outer s H vs Q E hr h => by
    have nd := sc_is_place.nd
    obtain ⟨_, v, ⟨a, o, rfl, ha, h1, h3, rfl⟩, q⟩ := h
    refine ⟨_, (pss_cons (ps_if (pt_not (pt_val (C8.pe_c C_is_tuple_of hr (by decide) rfl (pa_cons (pv 0) (pa_cons pe_int pa_nil))))) (pss_one (ps_ret pe_bl)) pss_nil)
      (pss_cons (ps_asg (pv 0) (pg_tup rfl (pgs_cons (pg_name (i := 1) nd rfl (by first | exact Or.inl rfl | exact Or.inr rfl)) (pgs_cons (pg_name (i := 2) nd rfl (by first | exact Or.inl rfl | exact Or.inr rfl)) pgs_nil))))
      (pss_one (ps_ret (pe_and (C8.pe_c C_is_name hr (by decide) rfl (pa_cons (pv 1) pa_nil)) (pe_one (C8.pe_c C_is_one_of hr (by decide) rfl (pa_cons (pv 2) (pa_cons (C8.pe_gc rfl (T.g_ARITIES)) pa_nil))))))))), ?_⟩
    refine ⟨_, rfl, rfl, _, ⟨a, _, 2, rfl, ha, rfl⟩, fun H1 e1 => ⟨_, rfl, ?_⟩⟩
    refine iteF ?_
    refine ⟨_, rfl, a, _, rfl, ex_t e1 ha, rfl, _, _, rfl, _, _, rfl, rfl, ?_⟩
    refine ⟨_, rfl, rfl, _, ⟨_, rfl, by have := nameLen h1; omega, rfl⟩, fun H2 e2 => ⟨_, rfl, ?_⟩⟩
    rw [h1]
    refine iteT ⟨_, rfl, rfl, _, ⟨_, aA, arities, rfl, by rw [← arities_lit]; exact T.t_ARITIES _, rfl⟩, fun H4 e4 => ?_⟩
    rw [decide_eq_true h3]
    exact q H4 ((e1.trans e2).trans e4)
end
end K9

set_option Elab.async false
set_option maxRecDepth 100000
set_option maxHeartbeats 4000000
namespace K9
open PySem PySem.Spec PyProof.Rows L2 SX Evl KL
section
variable {P : Program} {w : World} {K : PySem.W.Frag} {mg : Str → Option Value} {base : Heap} {f : Addr} {fd : FuncData} {aK aA aV aL : Addr}
abbrev s_need_options : Stmt := top 30
theorem sc_need_options : FnScope ["options", "taken_names", "taken_letters", "number", "option", "name", "letter", "_"] ["options"] (C8.fnScope s_need_options) := C8.fnScope_by (by decide +kernel)
theorem ok_needOpts (F : C8.Def K mg "need_options" s_need_options f fd) (b : Binds K fd ["options"] []) (B : Blt mg) (T : Csts K mg aK aA aV aL) (C_is_option : C8.Cal P w K mg base 3 "is_option" (spOption K) []) : C8.Cal P w K mg base 4 "need_options" (spNeedOpts K) [] :=
  C8.cal0 F b .nil sc_need_options (fun vs H Q E h => h.1) fun cdv A outer s H vs Q E hr h => by
    have nd := sc_need_options.nd
    have hu := hu_of hr
    obtain ⟨_, v, ⟨a, g, rfl, ⟨as, hs, hp⟩, ok, rfl⟩, q⟩ := h
    have ln : as.length = g.opts.length := hp.length
    have l24 := ok.ol
    refine ⟨_, (pss_cons (ps_if (PW.pt (pw_or (pt_not (pt_val (pe_callB (id := "isinstance") call_isi (by rfl) B.isinstance_ (by decide +kernel) (pa_cons (pv 0) (pa_cons (pe_bltn (v := .ty "tuple") (by rfl) B.tuple_ (by decide +kernel) rfl) pa_nil))))) (pw_or1 (pt_cmpR op_gt (pe_callB (id := "len") call_len_seq (by rfl) B.len_ (by decide +kernel) (pa_cons (pv 0) pa_nil)) (C8.pe_gc rfl (T.g_MOST_OPTIONS)) (nomark _))))) (pss_one ps_never) pss_nil)
      (pss_cons (ps_set (i := 1) nd rfl (by first | exact Or.inl rfl | exact Or.inr rfl) pe_dnewK)
      (pss_cons (ps_set (i := 2) nd rfl (by first | exact Or.inl rfl | exact Or.inr rfl) pe_dnewK)
      (pss_one (ps_for PassesOwn.never rfl (KL.pi_enumT (by rfl) B.enumerate_ (pa_cons (pv 0) pa_nil)) (pg_tup rfl (pgs_cons (pg_name (i := 3) nd rfl (by first | exact Or.inl rfl | exact Or.inr rfl)) (pgs_cons (pg_name (i := 4) nd rfl (by first | exact Or.inl rfl | exact Or.inr rfl)) pgs_nil))) (pss_cons (ps_if (pt_not (pt_val (C8.pe_c C_is_option hr (by decide) rfl (pa_cons (pv 4) pa_nil)))) (pss_one ps_never) pss_nil)
      (pss_cons (ps_asg (pv 4) (pg_tup rfl (pgs_cons (pg_name (i := 5) nd rfl (by first | exact Or.inl rfl | exact Or.inr rfl)) (pgs_cons (pg_name (i := 6) nd rfl (by first | exact Or.inl rfl | exact Or.inr rfl)) (pgs_cons (pg_name (i := 7) nd rfl (by first | exact Or.inl rfl | exact Or.inr rfl)) pgs_nil)))))
      (pss_cons (ps_if (PW.pt (pw_or (pt_cmp (pc_din hu (pv 5) (pv 1))) (pw_or1 (pt_cmp (pc_din hu (pv 6) (pv 2)))))) (pss_one ps_never) pss_nil)
      (pss_cons (ps_dput hu (pv 1) (pv 5) pe_bl rfl)
      (pss_one (ps_if (pt_cmpR op_ne (pv 6) pe_str (nomark _)) (pss_one (ps_dput hu (pv 2) (pv 6) pe_bl rfl)) pss_nil))))))))))), ?_⟩
    refine ⟨_, rfl, _, _, _, _, true, rfl, .ty "tuple", ty_tup hs, kTup, true, rfl, iteF ?_⟩
    refine ⟨_, rfl, a, _, rfl, .inr hs, _, _, rfl, rfl, _, rfl, ?_⟩
    rw [List.length_map, decide_eq_false (show ¬ ((24 : Int) < (as.length : Int)) by omega)]
    refine iteF ?_
    intro D1 n1 D2 n2
    have x1 : Ex H (upd H D1 (.dK [])) := Ex.new n1
    have n2' : H D2 = none := fresh_back x1 n2
    have nd12 : D1 ≠ D2 := fun z => by rw [← z, upd_same] at n2; cases n2
    refine ⟨_, rfl, a, _, rfl, ex_t (x1.trans (Ex.new n2)) hs, for_it (walk_enumT (xs := as.map V.ref)) (fun i σ H1 => ∃ x y z u v, σ = [some (.ref a), some (.ref D1), some (.ref D2), x, y, z, u, v] ∧ Ex H H1 ∧
        H1 D1 = some (.dK (ones ((g.opts.take i).map (·.name)))) ∧ H1 D2 = some (.dK (ones (((g.opts.take i).map (·.letter)).filter (fun l => decide (l ≠ []))))))
      ⟨_, _, _, _, _, rfl, x1.trans (Ex.new n2), by rw [upd_ne nd12, upd_same]; rfl, by rw [upd_same]; rfl⟩ (fun i σ H1 _ ⟨_, _, _, _, _, _, e, _⟩ => ex_t e hs) ?_ ?_⟩
    · rintro i x σ H1 H2 hi ⟨x0, y0, z0, u0, v0, rfl, e1, d1, d2⟩ ⟨Tn, x1', y1, rfl, nT, rfl, h1, h2⟩
      cases h1
      have h2 : (as.map V.ref)[i]? = some y1 := h2
      rw [List.getElem?_map] at h2
      obtain ⟨ao, hao, e⟩ := Option.map_eq_some_iff.mp h2
      subst e
      have il : i < g.opts.length := by
        rw [List.length_map] at hi
        omega
      have ho : g.opts[i]? = some g.opts[i] := List.getElem?_eq_getElem il
      generalize g.opts[i] = o at ho
      obtain ⟨ao', hao', oa⟩ := KL.Paired.at hp ho
      rw [hao] at hao'
      cases hao'
      have mo : o ∈ g.opts := List.mem_of_getElem? ho
      have oko := ok.oo o mo
      have xT : Ex H1 (upd H1 Tn (.tup [.int (i : Nat), .ref ao])) := Ex.new nT
      have fresh1 : o.name ∉ (g.opts.take i).map (·.name) := by
        rw [List.map_take]
        exact nd_new ok.on (by rw [List.getElem?_map, ho]; rfl)
      have fresh2 : o.letter ∉ ((g.opts.take i).map (·.letter)).filter (fun l => decide (l ≠ [])) := by
        intro m
        by_cases hz : o.letter = []
        · rw [hz] at m
          simp at m
        · have sp : (g.opts.map (·.letter)).filter (fun l => decide (l ≠ [])) = ((g.opts.take i).map (·.letter)).filter (fun l => decide (l ≠ [])) ++ ((g.opts.drop i).map (·.letter)).filter (fun l => decide (l ≠ [])) := by
            rw [← List.filter_append, ← List.map_append, List.take_append_drop]
          have nz := ok.oz
          rw [sp] at nz
          have dr : o.letter ∈ ((g.opts.drop i).map (·.letter)).filter (fun l => decide (l ≠ [])) := by
            refine List.mem_filter.mpr ⟨List.mem_map.mpr ⟨o, ?_, rfl⟩, by simp [hz]⟩
            have : (g.opts.drop i)[0]? = some o := by rw [List.getElem?_drop]; simpa using ho
            exact List.mem_of_getElem? this
          exact (List.nodup_append.mp nz).2.2 _ m _ dr rfl
      -- the pair is unpacked; is_option(option)
      refine ⟨Tn, _, rfl, st_of upd_same, rfl, _, _, rfl, _, _, rfl, rfl, ?_⟩
      refine ⟨_, rfl, rfl, _, ⟨ao, o, rfl, OptAt.mono (e1.trans xT) oa, oko, rfl⟩, fun H3 e3 => ⟨_, rfl, ?_⟩⟩
      refine iteF ?_
      have e3' : Ex H H3 := (e1.trans xT).trans e3
      have d13 := e3 _ _ (xT _ _ d1)
      have d23 := e3 _ _ (xT _ _ d2)
      refine ⟨_, rfl, ao, _, rfl, ex_t e3' oa, rfl, _, _, rfl, _, _, rfl, _, _, rfl, rfl, ?_⟩
      -- if name in taken_names or letter in taken_letters
      refine ⟨_, rfl, _, rfl, D1, _, rfl, DGet.k (k := kS o.name) d13, _, rfl, ?_⟩
      rw [ones_none fresh1]
      refine iteF ⟨_, rfl, _, rfl, D2, _, rfl, DGet.k (k := kS o.letter) d23, _, rfl, ?_⟩
      rw [ones_none fresh2]
      refine iteF ?_
      have n1e : H D1 = none := n1
      have sz : ∀ l : List (List Nat), l.length ≤ 24 → (ones l).length < sizeLine := fun l h => small1000 (by rw [List.length_map]; omega)
      refine ⟨_, rfl, _, rfl, D1, _, rfl, DPut.k (k := kS o.name) d13 (sz _ (by rw [List.length_map, List.length_take]; omega)), ?_⟩
      rw [ones_put fresh1]
      have tn : (g.opts.take i).map (·.name) ++ [o.name] = (g.opts.take (i + 1)).map (·.name) := by rw [take_snoc ho, List.map_append]; rfl
      have tl : ((g.opts.take (i + 1)).map (·.letter)).filter (fun l => decide (l ≠ [])) = ((g.opts.take i).map (·.letter)).filter (fun l => decide (l ≠ [])) ++ (if o.letter = [] then [] else [o.letter]) := by
        rw [take_snoc ho, List.map_append, List.filter_append]
        by_cases hz : o.letter = []
        · simp [hz]
        · simp [hz]
      rw [tn]
      refine ⟨_, rfl, rfl, _, rfl, ?_⟩
      rw [lit_nil, ss_eq]
      by_cases hz : o.letter = []
      · rw [decide_eq_true hz]
        refine iteF ⟨_, _, _, _, _, rfl, Ex.mut e3' n1e, by rw [upd_same], ?_⟩
        rw [upd_ne nd12.symm, d23, tl, if_pos hz, List.append_nil]
      · rw [decide_eq_false hz]
        have d23' : upd H3 D1 (.dK (ones ((g.opts.take (i + 1)).map (·.name)))) D2 = some (.dK (ones (((g.opts.take i).map (·.letter)).filter (fun l => decide (l ≠ []))))) := by rw [upd_ne nd12.symm]; exact d23
        refine iteT ⟨_, rfl, _, rfl, D2, _, rfl, DPut.k (k := kS o.letter) d23' (sz _ ?_), ?_⟩
        · refine Nat.le_trans (List.length_filter_le _ _) ?_
          rw [List.length_map, List.length_take]
          omega
        rw [ones_put fresh2]
        refine ⟨_, _, _, _, _, rfl, Ex.mut (Ex.mut e3' n1e) n2', by rw [upd_ne nd12, upd_same], ?_⟩
        rw [upd_same, tl, if_neg hz]
    · rintro σ H1 ⟨x0, y0, z0, u0, v0, rfl, e1, d1, d2⟩
      exact q H1 e1
end
end K9

set_option Elab.async false
set_option maxRecDepth 100000
set_option maxHeartbeats 4000000
namespace K9
open PySem PySem.Spec PyProof.Rows L2 SX Evl KL
section
variable {P : Program} {w : World} {K : PySem.W.Frag} {mg : Str → Option Value} {base : Heap} {f : Addr} {fd : FuncData} {aK aA aV aL : Addr}
abbrev s_need_places : Stmt := top 31
theorem sc_need_places : FnScope ["places", "taken", "has_many", "number", "place", "name", "arity"] ["places"] (C8.fnScope s_need_places) := C8.fnScope_by (by decide +kernel)
theorem ok_needPls (F : C8.Def K mg "need_places" s_need_places f fd) (b : Binds K fd ["places"] []) (B : Blt mg) (T : Csts K mg aK aA aV aL) (C_is_place : C8.Cal P w K mg base 3 "is_place" (spPlace K) []) : C8.Cal P w K mg base 4 "need_places" (spNeedPls K) [] :=
  C8.cal0 F b .nil sc_need_places (fun vs H Q E h => h.1) fun cdv A outer s H vs Q E hr h => by
    have nd := sc_need_places.nd
    have hu := hu_of hr
    obtain ⟨_, v, ⟨a, g, rfl, ⟨as, hs, hp⟩, ok, rfl⟩, q⟩ := h
    have ln : as.length = g.pls.length := hp.length
    have l24 := ok.pl
    refine ⟨_, (pss_cons (ps_if (PW.pt (pw_or (pt_not (pt_val (pe_callB (id := "isinstance") call_isi (by rfl) B.isinstance_ (by decide +kernel) (pa_cons (pv 0) (pa_cons (pe_bltn (v := .ty "tuple") (by rfl) B.tuple_ (by decide +kernel) rfl) pa_nil))))) (pw_or1 (pt_cmpR op_gt (pe_callB (id := "len") call_len_seq (by rfl) B.len_ (by decide +kernel) (pa_cons (pv 0) pa_nil)) (C8.pe_gc rfl (T.g_MOST_PLACES)) (nomark _))))) (pss_one ps_never) pss_nil)
      (pss_cons (ps_set (i := 1) nd rfl (by first | exact Or.inl rfl | exact Or.inr rfl) pe_dnewK)
      (pss_cons (ps_set (i := 2) nd rfl (by first | exact Or.inl rfl | exact Or.inr rfl) pe_bl)
      (pss_one (ps_for PassesOwn.never rfl (KL.pi_enumT (by rfl) B.enumerate_ (pa_cons (pv 0) pa_nil)) (pg_tup rfl (pgs_cons (pg_name (i := 3) nd rfl (by first | exact Or.inl rfl | exact Or.inr rfl)) (pgs_cons (pg_name (i := 4) nd rfl (by first | exact Or.inl rfl | exact Or.inr rfl)) pgs_nil))) (pss_cons (ps_if (pt_not (pt_val (C8.pe_c C_is_place hr (by decide) rfl (pa_cons (pv 4) pa_nil)))) (pss_one ps_never) pss_nil)
      (pss_cons (ps_asg (pv 4) (pg_tup rfl (pgs_cons (pg_name (i := 5) nd rfl (by first | exact Or.inl rfl | exact Or.inr rfl)) (pgs_cons (pg_name (i := 6) nd rfl (by first | exact Or.inl rfl | exact Or.inr rfl)) pgs_nil))))
      (pss_cons (ps_if (PW.pt (pw_or (pt_cmp (pc_din hu (pv 5) (pv 1))) (pw_or1 (PW.pt (pw_and (pt_val (pv 2)) (pw_and1 (pt_cmpR op_eq (pv 6) pe_str (nomark _)))))))) (pss_one ps_never) pss_nil)
      (pss_cons (ps_dput hu (pv 1) (pv 5) pe_bl rfl)
      (pss_one (ps_set (i := 2) nd rfl (by first | exact Or.inl rfl | exact Or.inr rfl) (pe_or (pv 2) (pe_one (pe_cmpR op_eq (pv 6) pe_str (nomark _))))))))))))))), ?_⟩
    refine ⟨_, rfl, _, _, _, _, true, rfl, .ty "tuple", ty_tup hs, kTup, true, rfl, iteF ?_⟩
    refine ⟨_, rfl, a, _, rfl, .inr hs, _, _, rfl, rfl, _, rfl, ?_⟩
    rw [List.length_map, decide_eq_false (show ¬ ((5 : Int) < (as.length : Int)) by omega)]
    refine iteF ?_
    intro D1 n1
    have x1 : Ex H (upd H D1 (.dK [])) := Ex.new n1
    refine ⟨_, rfl, a, _, rfl, ex_t x1 hs, for_it (walk_enumT (xs := as.map V.ref)) (fun i σ H1 => ∃ x y u v, σ = [some (.ref a), some (.ref D1), some (.bl ((g.pls.take i).any (fun p => decide (p.2 = aMany)))), x, y, u, v] ∧ Ex H H1 ∧
        H1 D1 = some (.dK (ones ((g.pls.take i).map (·.1)))))
      ⟨_, _, _, _, rfl, x1, upd_same⟩ (fun i σ H1 _ ⟨_, _, _, _, _, e, _⟩ => ex_t e hs) ?_ ?_⟩
    · rintro i x σ H1 H2 hi ⟨x0, y0, u0, v0, rfl, e1, d1⟩ ⟨Tn, x1', y1, rfl, nT, rfl, h1, h2⟩
      cases h1
      have h2 : (as.map V.ref)[i]? = some y1 := h2
      rw [List.getElem?_map] at h2
      obtain ⟨ao, hao, e⟩ := Option.map_eq_some_iff.mp h2
      subst e
      have il : i < g.pls.length := by
        rw [List.length_map] at hi
        omega
      have ho : g.pls[i]? = some g.pls[i] := List.getElem?_eq_getElem il
      generalize g.pls[i] = o at ho
      obtain ⟨ao', hao', oa⟩ := KL.Paired.at hp ho
      rw [hao] at hao'
      cases hao'
      have mo : o ∈ g.pls := List.mem_of_getElem? ho
      have oko := ok.po o mo
      have xT : Ex H1 (upd H1 Tn (.tup [.int (i : Nat), .ref ao])) := Ex.new nT
      have fresh1 : o.1 ∉ (g.pls.take i).map (·.1) := by
        rw [List.map_take]
        exact nd_new ok.pn (by rw [List.getElem?_map, ho]; rfl)
      have once : (g.pls.take i).any (fun p => decide (p.2 = aMany)) = true → o.2 ≠ aMany := by
        intro h e
        have sp : g.pls.filter (fun p => decide (p.2 = aMany)) = (g.pls.take i).filter (fun p => decide (p.2 = aMany)) ++ (g.pls.drop i).filter (fun p => decide (p.2 = aMany)) := by
          rw [← List.filter_append, List.take_append_drop]
        have pm := ok.pm
        rw [sp, List.length_append] at pm
        have g1 : 0 < ((g.pls.take i).filter (fun p => decide (p.2 = aMany))).length := by
          obtain ⟨p, hp, hq⟩ := List.any_eq_true.mp h
          exact List.length_pos_of_mem (List.mem_filter.mpr ⟨hp, hq⟩)
        have g2 : 0 < ((g.pls.drop i).filter (fun p => decide (p.2 = aMany))).length := by
          have : (g.pls.drop i)[0]? = some o := by rw [List.getElem?_drop]; simpa using ho
          exact List.length_pos_of_mem (List.mem_filter.mpr ⟨List.mem_of_getElem? this, by simp [e]⟩)
        omega
      refine ⟨Tn, _, rfl, st_of upd_same, rfl, _, _, rfl, _, _, rfl, rfl, ?_⟩
      refine ⟨_, rfl, rfl, _, ⟨ao, o, rfl, PlAt.mono (e1.trans xT) oa, oko.1, oko.2, rfl⟩, fun H3 e3 => ⟨_, rfl, ?_⟩⟩
      refine iteF ?_
      have e3' : Ex H H3 := (e1.trans xT).trans e3
      have d13 := e3 _ _ (xT _ _ d1)
      refine ⟨_, rfl, ao, _, rfl, ex_t e3' oa, rfl, _, _, rfl, _, _, rfl, rfl, ?_⟩
      refine ⟨_, rfl, _, rfl, D1, _, rfl, DGet.k (k := kS o.1) d13, _, rfl, ?_⟩
      rw [ones_none fresh1]
      refine iteF ⟨_, rfl, _, rfl, ?_⟩
      have go : tSeq (sDPut (tVar 1) (tVar 5) (tC (V.bl true))) (tAsg (tOrV (tVar 2) (tOp rEq (tVar 6) (tC (V.str "many")))) (gName 2))
          { nx := fun σ H1 => ∃ x y u v, σ = [some (.ref a), some (.ref D1), some (.bl ((g.pls.take (i + 1)).any (fun p => decide (p.2 = aMany)))), x, y, u, v] ∧ Ex H H1 ∧ H1 D1 = some (.dK (ones ((g.pls.take (i + 1)).map (·.1)))), rt := Q,
            bk := fun σ H => True, ct := fun σ H => True }
          [some (.ref a), some (.ref D1), some (.bl ((g.pls.take i).any (fun p => decide (p.2 = aMany)))), some (.int (i : Nat)), some (.ref ao), some (ss o.1), some (ss o.2)] H3 := by
        refine ⟨_, rfl, _, rfl, D1, _, rfl, DPut.k (k := kS o.1) d13 (small1000 ?_), ?_⟩
        · rw [List.length_map, List.length_map, List.length_take]
          omega
        rw [ones_put fresh1]
        have tn : (g.pls.take i).map (·.1) ++ [o.1] = (g.pls.take (i + 1)).map (·.1) := by rw [take_snoc ho, List.map_append]; rfl
        rw [tn]
        have ta : (g.pls.take (i + 1)).any (fun p => decide (p.2 = aMany)) = ((g.pls.take i).any (fun p => decide (p.2 = aMany)) || decide (o.2 = aMany)) := by rw [take_snoc ho, List.any_append]; simp
        refine ⟨_, rfl, _, rfl, ?_⟩
        cases hh : (g.pls.take i).any (fun p => decide (p.2 = aMany)) with
        | true => exact iteT ⟨_, _, _, _, by rw [ta, hh]; rfl, Ex.mut e3' n1, upd_same⟩
        | false =>
          refine iteF ⟨_, rfl, rfl, ?_⟩
          rw [lit_many, ss_eq]
          exact ⟨_, _, _, _, by rw [ta, hh, Bool.false_or]; rfl, Ex.mut e3' n1, upd_same⟩
      cases hh : (g.pls.take i).any (fun p => decide (p.2 = aMany)) with
      | false =>
        refine iteF (iteF ?_)
        rw [hh] at go
        exact go
      | true =>
        refine iteT ⟨_, rfl, rfl, _, rfl, ?_⟩
        rw [lit_many, ss_eq, decide_eq_false (once hh)]
        refine iteF ?_
        rw [hh] at go
        exact go
    · rintro σ H1 ⟨x0, y0, u0, v0, rfl, e1, d1⟩
      exact q H1 e1
abbrev s_need_modes : Stmt := top 32
theorem sc_need_modes : FnScope ["modes", "mode"] ["modes"] (C8.fnScope s_need_modes) := C8.fnScope_by (by decide +kernel)
theorem ok_needModes (F : C8.Def K mg "need_modes" s_need_modes f fd) (b : Binds K fd ["modes"] []) (B : Blt mg) (C_is_tuple_of : C8.Cal P w K mg base 1 "is_tuple_of" (spTupOf K) []) : C8.Cal P w K mg base 2 "need_modes" (spNeedModes K) [] :=
  C8.cal0 F b .nil sc_need_modes (fun vs H Q E h => h.1) fun cdv A outer s H vs Q E hr h => by
    have nd := sc_need_modes.nd
    obtain ⟨_, v, ⟨a, x, y, z, rfl, ha, rfl⟩, q⟩ := h
    refine ⟨_, (pss_one (ps_if (PW.pt (pw_or (pt_not (pt_val (C8.pe_c C_is_tuple_of hr (by decide) rfl (pa_cons (pv 0) (pa_cons pe_int pa_nil))))) (pw_or1 (pt_not (pt_val (pe_callB (id := "all") (cr_all rfl) (by rfl) B.all_ (by decide +kernel) (pa_cons (pe_lc (own := [("mode", 1)]) rfl nd (pi_tup (pv 0)) (blkOk_by (N := ["modes", "mode"]) (sc := C8.fnScope s_need_modes) (by decide +kernel)) (fun _ _ _ _ _ => (pg_name (i := 1) nd rfl (by first | exact Or.inl rfl | exact Or.inr rfl))) (fun _ _ _ _ _ => pts_nil) (fun _ _ _ _ _ => (pe_callB (id := "isinstance") (r := rIsi K) call_isi (by rfl) B.isinstance_ (by decide +kernel) (pa_cons (pv 1) (pa_cons (pe_bltn (v := .ty "bool") (by rfl) B.bool_ (by decide +kernel) rfl) pa_nil))))) pa_nil))))))) (pss_one ps_never) pss_nil)), ?_⟩
    refine ⟨_, rfl, rfl, _, ⟨a, _, 3, rfl, ha, rfl⟩, fun H1 e1 => ⟨_, rfl, ?_⟩⟩
    refine iteF ?_
    refine ⟨_, rfl, a, rfl, ⟨_, ex_t e1 ha⟩, fun D hD => ?_⟩
    refine lc_ys (L2.walk_tup (K := K) (a := a) (xs := [.bl x, .bl y, .bl z])) [x, y, z] rfl (by show 3 ≤ 100000; decide) (fun _ => true) (fun _ => .bl true) hD (fun H2 e2 => ex_t (e1.trans e2) ha) ?_ ?_
    · rintro i c x' H2 H3 hi e2 ⟨rfl, hx⟩ Z N hz hn
      have hx' : ([x, y, z].map V.bl)[i]? = some x' := hx
      rw [List.getElem?_map, hi] at hx'
      obtain rfl : V.bl c = x' := Option.some.inj hx'
      refine ⟨rfl, ?_⟩
      refine iteT (B := N H3) ?_
      exact ⟨_, rfl, _, _, _, _, true, rfl, .ty "bool", .base (.bl c), kBool, hz H3 (Ex.refl _) rfl⟩
    · intro H2 e2 h2
      refine ⟨D, [true, true, true], rfl, sq_of h2, _, rfl, iteF ?_⟩
      exact q H2 (e1.trans e2)
abbrev s_need_grammar : Stmt := top 33
theorem sc_need_grammar : FnScope ["thing", "options", "places", "modes"] ["thing"] (C8.fnScope s_need_grammar) := C8.fnScope_by (by decide +kernel)
theorem ok_needGr (F : C8.Def K mg "need_grammar" s_need_grammar f fd) (b : Binds K fd ["thing"] []) (B : Blt mg) (C_is_tuple_of : C8.Cal P w K mg base 1 "is_tuple_of" (spTupOf K) []) (C_need_options : C8.Cal P w K mg base 4 "need_options" (spNeedOpts K) [])
    (C_need_places : C8.Cal P w K mg base 4 "need_places" (spNeedPls K) []) (C_need_modes : C8.Cal P w K mg base 2 "need_modes" (spNeedModes K) []) : C8.Cal P w K mg base 5 "need_grammar" (spNeedGr K) [] :=
  C8.cal0 F b .nil sc_need_grammar (fun vs H Q E h => h.1) fun cdv A outer s H vs Q E hr h => by
    have nd := sc_need_grammar.nd
    obtain ⟨_, v, ⟨a, g, rfl, ha, ok, rfl⟩, q⟩ := h
    obtain ⟨ao, ap, am, h1, h2, h3, h4⟩ := ha.ex
    refine ⟨_, (pss_cons (ps_if (pt_not (pt_val (C8.pe_c C_is_tuple_of hr (by decide) rfl (pa_cons (pv 0) (pa_cons pe_int pa_nil))))) (pss_one ps_never) pss_nil)
      (pss_cons (ps_asg (pv 0) (pg_tup rfl (pgs_cons (pg_name (i := 1) nd rfl (by first | exact Or.inl rfl | exact Or.inr rfl)) (pgs_cons (pg_name (i := 2) nd rfl (by first | exact Or.inl rfl | exact Or.inr rfl)) (pgs_cons (pg_name (i := 3) nd rfl (by first | exact Or.inl rfl | exact Or.inr rfl)) pgs_nil)))))
      (pss_cons (ps_expr (C8.pe_c C_need_options hr (by decide) rfl (pa_cons (pv 1) pa_nil)))
      (pss_cons (ps_expr (C8.pe_c C_need_places hr (by decide) rfl (pa_cons (pv 2) pa_nil)))
      (pss_cons (ps_expr (C8.pe_c C_need_modes hr (by decide) rfl (pa_cons (pv 3) pa_nil)))
      (pss_one (ps_ret (pv 0)))))))), ?_⟩
    refine ⟨_, rfl, rfl, _, ⟨a, _, 3, rfl, h1, rfl⟩, fun H1 e1 => ⟨_, rfl, ?_⟩⟩
    refine iteF ?_
    refine ⟨_, rfl, a, _, rfl, ex_t e1 h1, rfl, _, _, rfl, _, _, rfl, _, _, rfl, rfl, ?_⟩
    refine ⟨_, rfl, rfl, _, ⟨ao, g, rfl, h2.mono e1, ok, rfl⟩, fun H2 e2 => ?_⟩
    refine ⟨_, rfl, rfl, _, ⟨ap, g, rfl, h3.mono (e1.trans e2), ok, rfl⟩, fun H3 e3 => ?_⟩
    refine ⟨_, rfl, rfl, _, ⟨am, _, _, _, rfl, ex_t ((e1.trans e2).trans e3) h4, rfl⟩, fun H4 e4 => ?_⟩
    exact ⟨_, rfl, q H4 (((e1.trans e2).trans e3).trans e4)⟩
end
end K9

set_option Elab.async false
set_option maxRecDepth 100000
set_option maxHeartbeats 4000000
/-! A dict from words to lists of words (owners), and the dict of the beginnings that only one name has. -/
namespace KL
open PySem PySem.Spec PyProof.Rows L2 SX Evl
/-- the words ts are the keys, in order; at each stands a list of its own, the words c t; nothing of H0 is touched -/
structure Rep (H0 H : Hp) (D : Addr) (ts : List (List Nat)) (ps : List Addr) (c : List Nat → List V) : Prop where
  ex : Ex H0 H
  dk : H D = some (.dK ((ts.zip ps).map fun tp => (kS tp.1, V.ref tp.2)))
  len : ps.length = ts.length
  nd : ts.Nodup
  nc : ∀ t, t ∉ ts → c t = []
  ne : ∀ t ∈ ts, c t ≠ []
  at_ : ∀ (i : Nat) (t : List Nat) (p : Addr), ts[i]? = some t → ps[i]? = some p → H p = some (.lst (c t))
  dp : ps.Nodup
  fr : ∀ p ∈ ps, H0 p = none
  nD : H0 D = none
theorem zip_at {ts : List (List Nat)} {ps : List Addr} (hl : ps.length = ts.length) : ∀ {k : List Nat} {i : Nat}, ts.Nodup → ts[i]? = some k → ∃ p, ps[i]? = some p ∧ valV ((ts.zip ps).map fun tp => (kS tp.1, V.ref tp.2)) (kS k) = some (.ref p) := by
  induction ts generalizing ps with
  | nil => intro k i _ h; simp at h
  | cons t r ih =>
    intro k i nd h
    match ps, hl with
    | p :: pr, hl =>
      have hl' : pr.length = r.length := by simpa using hl
      cases i with
      | zero =>
        have e : t = k := by simpa using h
        subst e
        refine ⟨p, rfl, ?_⟩
        rw [List.zip_cons_cons, List.map_cons, valV_cons, if_pos rfl]
      | succ i =>
        have h' : r[i]? = some k := by simpa using h
        obtain ⟨q, h1, h2⟩ := ih hl' (List.nodup_cons.mp nd).2 h'
        refine ⟨q, by simpa using h1, ?_⟩
        have ne : ¬ (kS t = kS k) := fun z => (List.nodup_cons.mp nd).1 (kS_inj z ▸ List.mem_of_getElem? h')
        rw [List.zip_cons_cons, List.map_cons, valV_cons, if_neg ne]
        exact h2
theorem zip_none {ts : List (List Nat)} {ps : List Addr} {k : List Nat} (h : k ∉ ts) : valV ((ts.zip ps).map fun tp => (kS tp.1, V.ref tp.2)) (kS k) = none := by
  refine valV_none fun m => ?_
  rw [List.map_map] at m
  obtain ⟨tp, hm, e⟩ := List.mem_map.mp m
  exact h (kS_inj (show kS tp.1 = kS k from e) ▸ (List.of_mem_zip hm).1)
/-- c with x put behind what stands at t -/
def more {α : Type} (c : List Nat → List α) (t : List Nat) (x : α) : List Nat → List α := fun u => if u = t then c u ++ [x] else c u
theorem Rep.old {H0 H : Hp} {D : Addr} {ts : List (List Nat)} {ps : List Addr} {c : List Nat → List V} (R : Rep H0 H D ts ps c) {t : List Nat} {x : V} (ht : t ∈ ts) :
    ∃ p, valV ((ts.zip ps).map fun tp => (kS tp.1, V.ref tp.2)) (kS t) = some (.ref p) ∧ H p = some (.lst (c t)) ∧ H0 p = none ∧ ∀ H1, Ex H H1 → Rep H0 (upd H1 p (.lst (c t ++ [x]))) D ts ps (more c t x) := by
  obtain ⟨i, hi, e⟩ := List.mem_iff_getElem.mp ht
  have ht2 : ts[i]? = some t := by rw [← e]; exact List.getElem?_eq_getElem hi
  obtain ⟨p, hp, hv⟩ := zip_at R.len R.nd ht2
  have hH := R.at_ i t p ht2 hp
  have hf := R.fr p (List.mem_of_getElem? hp)
  refine ⟨p, hv, hH, hf, fun H1 e1 => ?_⟩
  have nDp : D ≠ p := ne_of R.dk hH (by intro z; cases z)
  refine ⟨Ex.mut (R.ex.trans e1) hf, by rw [upd_ne nDp]; exact e1 _ _ R.dk, R.len, R.nd, fun u hu => ?_, fun u hu => ?_, fun j u q hj hq => ?_, R.dp, R.fr, R.nD⟩
  · unfold more
    rw [if_neg (show ¬ u = t from fun z => hu (by rw [z]; exact ht))]
    exact R.nc u hu
  · unfold more
    split
    · simp
    · exact R.ne u hu
  · unfold more
    by_cases hq2 : q = p
    · subst hq2
      have ij := nd_ix R.dp hq hp
      subst ij
      rw [ht2] at hj
      cases hj
      rw [upd_same, if_pos rfl]
    · have hut : u ≠ t := by
        intro z
        subst z
        have ij := nd_ix R.nd hj ht2
        subst ij
        rw [hp] at hq
        exact hq2 (Option.some.inj hq).symm
      rw [upd_ne hq2, if_neg hut]
      exact e1 _ _ (R.at_ j u q hj hq)
theorem Rep.new {H0 H : Hp} {D : Addr} {ts : List (List Nat)} {ps : List Addr} {c : List Nat → List V} (R : Rep H0 H D ts ps c) {t : List Nat} {x : V} (ht : t ∉ ts) {z : Addr} (hz : H z = none) :
    valV ((ts.zip ps).map fun tp => (kS tp.1, V.ref tp.2)) (kS t) = none ∧ z ≠ D ∧
    Rep H0 (upd (upd (upd H z (.lst [])) D (.dK (putK ((ts.zip ps).map fun tp => (kS tp.1, V.ref tp.2)) (kS t) (.ref z)))) z (.lst ([] ++ [x]))) D (ts ++ [t]) (ps ++ [z]) (more c t x) := by
  have hn := zip_none (ps := ps) ht
  have nzD : z ≠ D := fun e => by rw [e, R.dk] at hz; cases hz
  have zf : z ∉ ps := fun m => by
    obtain ⟨i, hi, e⟩ := List.mem_iff_getElem.mp m
    have h1 : ps[i]? = some z := by rw [← e]; exact List.getElem?_eq_getElem hi
    have h2 : i < ts.length := by rw [← R.len]; exact hi
    rw [R.at_ i ts[i] z (List.getElem?_eq_getElem h2) h1] at hz
    cases hz
  have z0 : H0 z = none := fresh_back R.ex hz
  refine ⟨hn, nzD, ?_⟩
  refine ⟨Ex.mut (Ex.mut (R.ex.trans (Ex.new hz)) R.nD) z0, ?_, by simp [R.len], ?_, fun u hu => ?_, fun u hu => ?_, fun j u q hj hq => ?_, ?_, fun q hq => ?_, R.nD⟩
  · rw [upd_ne (Ne.symm nzD), upd_same, putK_new _ hn, List.zip_append (by exact R.len.symm)]
    simp
  · exact nd_snoc R.nd ht
  · unfold more
    have h1 : u ≠ t := fun e => hu (by rw [e]; simp)
    rw [if_neg h1]
    exact R.nc u fun m => hu (List.mem_append_left _ m)
  · unfold more
    split
    · simp
    · rename_i h
      rcases List.mem_append.mp hu with m | m
      · exact R.ne u m
      · exact absurd (List.mem_singleton.mp m) h
  · unfold more
    by_cases hlt : j < ts.length
    · rw [List.getElem?_append_left hlt] at hj
      rw [List.getElem?_append_left (by rw [R.len]; exact hlt)] at hq
      have q1 : q ≠ z := fun e => zf (e ▸ List.mem_of_getElem? hq)
      have q2 : q ≠ D := by
        have := R.at_ j u q hj hq
        exact fun e => by rw [e, R.dk] at this; cases this
      have ut : u ≠ t := fun e => ht (e ▸ List.mem_of_getElem? hj)
      rw [upd_ne q1, upd_ne q2, upd_ne q1, if_neg ut]
      exact R.at_ j u q hj hq
    · have hle : ts.length ≤ j := by omega
      rw [List.getElem?_append_right hle] at hj
      rw [List.getElem?_append_right (by rw [R.len]; exact hle), R.len] at hq
      have j0 : j - ts.length = 0 := by
        have := (List.getElem?_eq_some_iff.mp hj).1
        simp at this
        omega
      rw [j0] at hj hq
      have e1 : t = u := by simpa using hj
      have e2 : z = q := by simpa using hq
      subst e1 e2
      rw [upd_same, if_pos rfl, R.nc t ht]
  · exact nd_snoc R.dp zf
  · rcases List.mem_append.mp hq with m | m
    · exact R.fr q m
    · rw [List.mem_singleton.mp m]; exact z0
theorem Rep.mono {H0 H H1 : Hp} {D : Addr} {ts : List (List Nat)} {ps : List Addr} {c : List Nat → List V} (R : Rep H0 H D ts ps c) (e : Ex H H1) : Rep H0 H1 D ts ps c :=
  ⟨R.ex.trans e, e _ _ R.dk, R.len, R.nd, R.nc, R.ne, fun i t p a b => e _ _ (R.at_ i t p a b), R.dp, R.fr, R.nD⟩
/-! ### beginnings -/
/-- t is a beginning of x, not empty -/
def begins (t x : List Nat) : Bool := decide (t ≠ []) && t.isPrefixOf x
/-- the only name that begins with t -/
def onlyOne (ns : List (List Nat)) (t : List Nat) : Option (List Nat) :=
  match ns.filter (begins t) with
  | [x] => some x
  | _ => none
/-- what stands at t when the first i names and e beginnings of the next, x, were taken -/
def owned (l : List (List Nat)) (x : List Nat) (e : Nat) (t : List Nat) : List (List Nat) := l.filter (begins t) ++ (if begins t x = true ∧ t.length ≤ e then [x] else [])
theorem begins_take {x : List Nat} {e : Nat} (h : e < x.length) : begins (x.take (e + 1)) x = true := by
  unfold begins
  rw [Bool.and_eq_true, decide_eq_true_eq, List.isPrefixOf_iff_prefix]
  refine ⟨fun z => ?_, List.take_prefix _ _⟩
  have h2 : (x.take (e + 1)).length = e + 1 := by rw [List.length_take]; omega
  rw [z] at h2
  simp at h2
theorem owned_step {l : List (List Nat)} {x : List Nat} {e : Nat} (h : e < x.length) : more (owned l x e) (x.take (e + 1)) x = owned l x (e + 1) := by
  funext t
  unfold more owned
  have lt : (x.take (e + 1)).length = e + 1 := by rw [List.length_take]; omega
  by_cases ht : t = x.take (e + 1)
  · subst ht
    rw [if_pos rfl, lt, if_neg (by omega), if_pos ⟨begins_take h, Nat.le_refl _⟩, List.append_nil]
  · rw [if_neg ht]
    congr 1
    by_cases hb : begins t x = true
    · have hp : t <+: x := by
        unfold begins at hb
        exact List.isPrefixOf_iff_prefix.mp (Bool.and_eq_true_iff.mp hb).2
      have hl : t.length ≠ e + 1 := fun z => ht (by rw [← z]; exact List.prefix_iff_eq_take.mp hp)
      by_cases h1 : t.length ≤ e
      · rw [if_pos ⟨hb, h1⟩, if_pos ⟨hb, by omega⟩]
      · rw [if_neg fun z => h1 z.2, if_neg fun z => by have := z.2; omega]
    · rw [if_neg fun z => hb z.1, if_neg fun z => hb z.1]
theorem more_map {c : List Nat → List (List Nat)} {t x : List Nat} : more (fun u => (c u).map ss) t (ss x) = fun u => (more c t x u).map ss := by
  funext u
  unfold more
  split
  · rw [List.map_append]; rfl
  · rfl
theorem owned_all (l : List (List Nat)) (x : List Nat) : owned l x x.length = fun t => (l ++ [x]).filter (begins t) := by
  funext t
  unfold owned
  rw [List.filter_append]
  congr 1
  by_cases hb : begins t x = true
  · have hp : t <+: x := by
      unfold begins at hb
      exact List.isPrefixOf_iff_prefix.mp (Bool.and_eq_true_iff.mp hb).2
    rw [if_pos ⟨hb, hp.length_le⟩]
    simp [hb]
  · rw [if_neg fun z => hb z.1]
    simp [hb]
theorem owned_zero (l : List (List Nat)) (x : List Nat) : owned l x 0 = fun t => l.filter (begins t) := by
  funext t
  unfold owned
  rw [if_neg, List.append_nil]
  rintro ⟨h1, h2⟩
  unfold begins at h1
  have := of_decide_eq_true (Bool.and_eq_true_iff.mp h1).1
  exact this (List.length_eq_zero_iff.mp (by omega))
/-- what a filled dict tells -/
theorem fold_val (F : List Nat → V) : ∀ (l : List (List Nat)) (acc : List (Key × V)) (t : List Nat), l.Nodup →
    valV (l.foldl (fun acc y => putK acc (kS y) (F y)) acc) (kS t) = if t ∈ l then some (F t) else valV acc (kS t)
  | [], acc, t, _ => by simp
  | y :: r, acc, t, nd => by
    obtain ⟨h1, h2⟩ := List.nodup_cons.mp nd
    rw [List.foldl_cons, fold_val F r _ t h2]
    have pv : valV (putK acc (kS y) (F y)) (kS t) = if t = y then some (F t) else valV acc (kS t) := by
      rw [valV_put]
      by_cases e : t = y
      · subst e
        rw [if_pos rfl, if_pos rfl]
      · rw [if_neg e, if_neg fun z => e (kS_inj z)]
    rw [pv]
    by_cases m : t ∈ r
    · rw [if_pos m, if_pos (List.mem_cons_of_mem _ m)]
    · rw [if_neg m]
      by_cases e : t = y
      · rw [if_pos e, if_pos (by rw [e]; exact List.mem_cons_self)]
      · rw [if_neg e, if_neg (fun z => (List.mem_cons.mp z).elim e m)]
def spOnly (K : PySem.W.Frag) : Sp := fun vs H Q _ => ∃ (a : Addr) (ns : List (List Nat)), vs = [.ref a] ∧ SqL K H a (ns.map ss) ∧ ns.length ≤ 24 ∧ (∀ n ∈ ns, n.length ≤ 12) ∧
  ∀ (D : Addr) (H' : Hp) (kvs : List (Key × V)), Ex H H' → H D = none → H' D = some (.dK kvs) → kvs.length ≤ 400 → (∀ t, valV kvs (kS t) = (onlyOne ns t).map ss) → Q (.ref D) H'
theorem Rep.start {H : Hp} {D : Addr} (h : H D = none) : Rep H (upd H D (.dK [])) D [] [] (fun _ => []) :=
  ⟨Ex.new h, upd_same, rfl, List.nodup_nil, fun _ _ => rfl, fun t m => absurd m List.not_mem_nil, fun i t p e => by simp at e, List.nodup_nil, fun p m => absurd m List.not_mem_nil, h⟩
theorem dec_int1 (n : Nat) : decide (V.int (n : Int) = V.int 1) = decide (n = 1) := by
  rw [Bool.eq_iff_iff]
  simp
  omega
theorem fold_len (F : List Nat → V) : ∀ (l : List (List Nat)) (acc : List (Key × V)), (l.foldl (fun acc y => putK acc (kS y) (F y)) acc).length ≤ acc.length + l.length
  | [], acc => by simp
  | y :: r, acc => by
    have h1 := fold_len F r (putK acc (kS y) (F y))
    have h2 : (putK acc (kS y) (F y)).length ≤ acc.length + 1 := by
      unfold putK
      split
      · rw [List.length_map]; omega
      · simp [List.length_append]
    rw [List.foldl_cons]
    rw [List.length_cons]
    omega
theorem only_val {ns ts : List (List Nat)} (nd : ts.Nodup) (nc : ∀ t, t ∉ ts → ns.filter (begins t) = []) (t : List Nat) :
    valV ((ts.filter fun u => decide ((ns.filter (begins u)).length = 1)).foldl (fun acc y => putK acc (kS y) (ss ((ns.filter (begins y)).headD []))) []) (kS t) = (onlyOne ns t).map ss := by
  rw [fold_val (fun y => ss ((ns.filter (begins y)).headD [])) _ _ _ (nd.filter _)]
  unfold onlyOne
  by_cases h : (ns.filter (begins t)).length = 1
  · obtain ⟨x, e⟩ := List.length_eq_one_iff.mp h
    have m : t ∈ ts := by
      by_cases m : t ∈ ts
      · exact m
      · rw [nc t m] at h
        simp at h
    rw [if_pos (List.mem_filter.mpr ⟨m, by simp [h]⟩), e]
    rfl
  · rw [if_neg fun z => h (by simpa using (List.mem_filter.mp z).2)]
    split
    · rename_i x e
      rw [e] at h
      simp at h
    · rfl
end KL

set_option Elab.async false
set_option maxRecDepth 100000
set_option maxHeartbeats 4000000
namespace KL
open PySem PySem.Spec PyProof.Rows L2 SX Evl
def Gr.names (g : Gr) : List (List Nat) := g.opts.map (·.name)
/-- the NAME that a string tells -/
def tellF (g : Gr) (t : List Nat) : Option (List Nat) := if t ∈ g.names then some t else if g.short then onlyOne g.names t else none
def readsNum (g : Gr) : Bool := g.minus && !(g.opts.any fun o => o.letter.any (mem sgFigure))
def arityCount (ps : List (List Nat × List Nat)) (ar : List Nat) : Nat := (ps.filter fun p => decide (p.2 = ar)).length
def dealOk (ps : List (List Nat × List Nat)) (n : Nat) : Bool := decide (arityCount ps aOne ≤ n) && (decide (n ≤ arityCount ps aOne + arityCount ps aMay) || decide (0 < arityCount ps aMany))
theorem OptsAt.get {K : PySem.W.Frag} {H : Hp} {as : List Addr} {os : List Opt} {i : Nat} {o : Opt} {x : V} (h : Paired (OptAt K H) as os) (ho : os[i]? = some o) (hx : (as.map V.ref)[i]? = some x) : ∃ ao, x = .ref ao ∧ OptAt K H ao o := by
  obtain ⟨ao, h1, h2⟩ := KL.Paired.at h ho
  rw [List.getElem?_map, h1] at hx
  exact ⟨ao, (Option.some.inj hx).symm, h2⟩
theorem PlsAt.get {K : PySem.W.Frag} {H : Hp} {as : List Addr} {os : List (List Nat × List Nat)} {i : Nat} {o : List Nat × List Nat} {x : V} (h : Paired (PlAt K H) as os) (ho : os[i]? = some o) (hx : (as.map V.ref)[i]? = some x) : ∃ ao, x = .ref ao ∧ PlAt K H ao o := by
  obtain ⟨ao, h1, h2⟩ := KL.Paired.at h ho
  rw [List.getElem?_map, h1] at hx
  exact ⟨ao, (Option.some.inj hx).symm, h2⟩
def spTold (K : PySem.W.Frag) : Sp := fun vs H Q _ => ∃ (a : Addr) (g : Gr), vs = [.ref a] ∧ GrAt K H a g ∧ g.Ok ∧
  ∀ (D : Addr) (H' : Hp) (kvs : List (Key × V)), Ex H H' → H D = none → H' D = some (.dK kvs) → kvs.length ≤ 500 → (∀ t, valV kvs (kS t) = (tellF g t).map ss) → Q (.ref D) H'
def spReadsNum (K : PySem.W.Frag) : Sp := spP 1 fun vs H v => ∃ (a : Addr) (g : Gr), vs = [.ref a] ∧ GrAt K H a g ∧ g.Ok ∧ v = .bl (readsNum g)
def spCountA (K : PySem.W.Frag) : Sp := spP 2 fun vs H v => ∃ (a : Addr) (ps : List (List Nat × List Nat)) (ar : List Nat), vs = [.ref a, ss ar] ∧ PlsAt K H a ps ∧ ps.length ≤ 5 ∧ v = .int (arityCount ps ar : Nat)
def spShares (K : PySem.W.Frag) : Sp := fun vs H Q _ => ∃ (a : Addr) (ps : List (List Nat × List Nat)) (n : Nat), vs = [.ref a, .int n] ∧ PlsAt K H a ps ∧ ps.length ≤ 5 ∧
  (dealOk ps n = false → ∀ H', Ex H H' → Q .non H') ∧ (dealOk ps n = true → ∀ p H', Ex H H' → Q (.ref p) H')
theorem flt_all {α : Type} (l : List α) : l.filter (fun _ => true) = l := List.filter_eq_self.mpr fun _ _ => rfl
end KL

set_option Elab.async false
set_option maxRecDepth 100000
set_option maxHeartbeats 4000000
namespace K9
open PySem PySem.Spec PyProof.Rows L2 SX Evl KL
section
variable {P : Program} {w : World} {K : PySem.W.Frag} {mg : Str → Option Value} {base : Heap} {f : Addr} {fd : FuncData} {aK aA aV aL : Addr}
abbrev s_reads_numbers : Stmt := top 34
theorem sc_reads_numbers : FnScope ["grammar", "options", "_", "modes", "letters", "option", "letter"] ["grammar"] (C8.fnScope s_reads_numbers) := C8.fnScope_by (by decide +kernel)
theorem ok_readsNum (F : C8.Def K mg "reads_numbers" s_reads_numbers f fd) (b : Binds K fd ["grammar"] []) (B : Blt mg) (T : Csts K mg aK aA aV aL) : C8.Cal P w K mg base 1 "reads_numbers" (spReadsNum K) [] :=
  C8.cal0 F b .nil sc_reads_numbers (fun vs H Q E h => h.1) fun cdv A outer s H vs Q E hr h => by
    have nd := sc_reads_numbers.nd
    have hu := hu_of hr
    obtain ⟨_, v, ⟨a, g, rfl, ha, ok, rfl⟩, q⟩ := h
    obtain ⟨ao, ap, am, h1, ⟨as, hs, hp⟩, h3, h4⟩ := ha.ex
    have ln : as.length = g.opts.length := hp.length
    have l24 := ok.ol
    refine ⟨_, (pss_cons (ps_asg (pv 0) (pg_tup rfl (pgs_cons (pg_name (i := 1) nd rfl (by first | exact Or.inl rfl | exact Or.inr rfl)) (pgs_cons (pg_name (i := 2) nd rfl (by first | exact Or.inl rfl | exact Or.inr rfl)) (pgs_cons (pg_name (i := 3) nd rfl (by first | exact Or.inl rfl | exact Or.inr rfl)) pgs_nil)))))
      (pss_cons (ps_setLc (i := 4) (own := [("option", 5)]) rfl nd rfl rfl (sw_true rfl rfl rfl (by decide +kernel)) (pi_tup (pv 1)) (blkOk_by (N := ["grammar", "options", "_", "modes", "letters", "option", "letter"]) (sc := C8.fnScope s_reads_numbers) (by decide +kernel)) (fun _ _ _ _ _ => (pg_name (i := 5) nd rfl (by first | exact Or.inl rfl | exact Or.inr rfl))) (fun _ _ _ _ _ => (pts_one (pt_cmpR op_ne (pe_ix (r := rIxT K) ix_tup (pv 5) pe_int (fun _ _ => rfl)) pe_str (nomark _)))) (fun _ _ _ _ _ => (pe_ix (r := rIxT K) ix_tup (pv 5) pe_int (fun _ _ => rfl))))
      (pss_one (ps_ret (pe_and (pe_ix ix_tup (pv 3) pe_int (fun _ _ => rfl)) (pe_one (pe_not (pe_callB (id := "any") (cr_any rfl) (by rfl) B.any_ (by decide +kernel) (pa_cons (pe_lc (own := [("letter", 6)]) rfl nd (pi_list (pv 4)) (blkOk_by (N := ["grammar", "options", "_", "modes", "letters", "option", "letter"]) (sc := C8.fnScope s_reads_numbers) (by decide +kernel)) (fun _ _ _ _ _ => (pg_name (i := 6) nd rfl (by first | exact Or.inl rfl | exact Or.inr rfl))) (fun _ _ _ _ _ => pts_nil) (fun _ _ _ _ _ => (pe_cmpR op_in_sign (pv 6) (C8.pe_gc rfl (T.g_FIGURES)) (by rfl)))) pa_nil))))))))), ?_⟩
    refine ⟨_, rfl, a, _, rfl, h1, rfl, _, _, rfl, _, _, rfl, _, _, rfl, rfl, ?_⟩
    refine ⟨_, rfl, ao, rfl, ⟨_, hs⟩, fun L hL => ?_⟩
    refine lc_ys (L2.walk_tup (K := K) (a := ao) (xs := as.map V.ref)) g.opts (by rw [List.length_map, ln]) (by rw [List.length_map]; omega) (fun o => decide (o.letter ≠ [])) (fun o => ss o.letter) hL (fun H2 e2 => ex_t e2 hs) ?_ ?_
    · rintro i o x H2 H3 hi e2 ⟨rfl, hx⟩ Z N hz hn
      obtain ⟨a1, rfl, oa⟩ := OptsAt.get hp hi hx
      refine ⟨rfl, ?_⟩
      refine ⟨_, rfl, a1, _, 1, _, rfl, rfl, ex_t e2 oa, atI_nat (j := 1) rfl, rfl, _, rfl, ?_⟩
      rw [lit_nil, ss_eq]
      by_cases hl : o.letter = []
      · rw [decide_eq_true hl]
        exact iteF (hn H3 (Ex.refl _) (by simp [hl]))
      · rw [decide_eq_false hl]
        exact iteT ⟨_, rfl, a1, _, 1, _, rfl, rfl, ex_t e2 oa, atI_nat (j := 1) rfl, hz H3 (Ex.refl _) (by simp [hl])⟩
    intro H2 e2 hL2
    have z := q
    unfold readsNum at z
    refine ⟨_, rfl, am, _, 2, _, rfl, rfl, ex_t e2 h4, atI_nat (j := 2) rfl, g.minus, rfl, ?_⟩
    cases hm : g.minus with
    | false =>
      rw [hm] at z
      exact iteF (z H2 e2)
    | true =>
      rw [hm] at z
      have sing : ∀ o ∈ g.opts, o.letter ≠ [] → ∃ c, o.letter = [c] := fun o ho hl => by
        have := ok.oo o ho
        simp only [Opt.ok, Bool.and_eq_true] at this
        have h := letterLen this.1.2
        match hh : o.letter, hl, h with
        | [c], _, _ => exact ⟨c, rfl⟩
      refine iteT ⟨_, rfl, L, rfl, ⟨_, sq_of hL2⟩, fun LL hLL => ?_⟩
      refine lc_ys (L2.walk_list (K := K) (a := L) (xs := (g.opts.filter fun o => decide (o.letter ≠ [])).map fun o => ss o.letter)) (g.opts.filter fun o => decide (o.letter ≠ [])) (by rw [List.length_map]) (by rw [List.length_map]; have := List.length_filter_le (fun o : Opt => decide (o.letter ≠ [])) g.opts; omega)
        (fun _ => true) (fun o => .bl (o.letter.any (mem sgFigure))) hLL (fun H3 e3 => sq_of (e3 _ _ hL2)) ?_ ?_
      · rintro i o x H3 H4 hi e3 ⟨rfl, hx⟩ Z N hz hn
        rw [List.getElem?_map, hi] at hx
        obtain rfl : ss o.letter = x := Option.some.inj hx
        have mo := List.mem_filter.mp (List.mem_of_getElem? hi)
        obtain ⟨c, hc⟩ := sing o mo.1 (by simpa using mo.2)
        refine ⟨rfl, ?_⟩
        refine iteT (B := N H4) ?_
        have e := hz H4 (Ex.refl _) rfl
        rw [hc] at e ⊢
        refine ⟨_, rfl, c, _, rfl, rfl, ?_⟩
        rw [show ([c].any (mem sgFigure)) = mem sgFigure c by simp] at e
        exact e
      · intro H3 e3 h3
        rw [flt_all] at h3
        refine ⟨LL, (g.opts.filter fun o => decide (o.letter ≠ [])).map fun o => o.letter.any (mem sgFigure), rfl, sq_of (by rw [h3, List.map_map]; rfl), _, rfl, ?_⟩
        have e : ((g.opts.filter fun o => decide (o.letter ≠ [])).map fun o => o.letter.any (mem sgFigure)).any id = g.opts.any fun o => o.letter.any (mem sgFigure) := by
          rw [List.any_map, List.any_filter]
          congr 1
          funext o
          by_cases hl : o.letter = []
          · simp [hl]
          · simp [hl]
        rw [e]
        rw [Bool.true_and] at z
        exact z H3 (e2.trans e3)
abbrev s_count_arity : Stmt := top 35
theorem sc_count_arity : FnScope ["places", "arity", "place"] ["places", "arity"] (C8.fnScope s_count_arity) := C8.fnScope_by (by decide +kernel)
theorem ok_countA (F : C8.Def K mg "count_arity" s_count_arity f fd) (b : Binds K fd ["places", "arity"] []) (B : Blt mg) : C8.Cal P w K mg base 1 "count_arity" (spCountA K) [] :=
  C8.cal0 F b .nil sc_count_arity (fun vs H Q E h => h.1) fun cdv A outer s H vs Q E hr h => by
    have nd := sc_count_arity.nd
    obtain ⟨_, v, ⟨a, ps, ar, rfl, ⟨as, hs, hp⟩, l5, rfl⟩, q⟩ := h
    have ln : as.length = ps.length := hp.length
    refine ⟨_, (pss_one (ps_ret (pe_callB (id := "len") call_len_seq (by rfl) B.len_ (by decide +kernel) (pa_cons (pe_lc (own := [("place", 2)]) rfl nd (pi_tup (pv 0)) (blkOk_by (N := ["places", "arity", "place"]) (sc := C8.fnScope s_count_arity) (by decide +kernel)) (fun _ _ _ _ _ => (pg_name (i := 2) nd rfl (by first | exact Or.inl rfl | exact Or.inr rfl))) (fun _ _ _ _ _ => (pts_one (pt_cmpR op_eq (pe_ix (r := rIxT K) ix_tup (pv 2) pe_int (fun _ _ => rfl)) (pv 1) (nomark _)))) (fun _ _ _ _ _ => (pv 2))) pa_nil)))), ?_⟩
    refine ⟨_, rfl, a, rfl, ⟨_, hs⟩, fun L hL => ?_⟩
    refine lc_ys (L2.walk_tup (K := K) (a := a) (xs := as.map V.ref)) (ps.zip as) (by rw [List.length_map, List.length_zip]; omega) (by rw [List.length_map]; omega) (fun o => decide (o.1.2 = ar)) (fun o => .ref o.2) hL (fun H2 e2 => ex_t e2 hs) ?_ ?_
    · rintro i o x H2 H3 hi e2 ⟨rfl, hx⟩ Z N hz hn
      have hz2 := List.getElem?_zip_eq_some.mp hi
      obtain ⟨a1, rfl, oa⟩ := PlsAt.get hp hz2.1 hx
      rw [List.getElem?_map, hz2.2] at hx
      obtain rfl : o.2 = a1 := V.ref.inj (Option.some.inj hx)
      refine ⟨rfl, ?_⟩
      refine ⟨_, rfl, o.2, _, 1, _, rfl, rfl, ex_t e2 oa, atI_nat (j := 1) rfl, _, rfl, rfl, _, rfl, ?_⟩
      rw [ss_eq]
      by_cases hl : o.1.2 = ar
      · rw [decide_eq_true hl]
        exact iteT ⟨_, rfl, hz H3 (Ex.refl _) (decide_eq_true hl)⟩
      · rw [decide_eq_false hl]
        exact iteF (hn H3 (Ex.refl _) (decide_eq_false hl))
    · intro H2 e2 h2
      refine ⟨L, _, rfl, .inl (sq_of h2), ?_⟩
      have e : (((ps.zip as).filter fun o => decide (o.1.2 = ar)).map fun o => V.ref o.2).length = arityCount ps ar := by
        rw [List.length_map]
        unfold arityCount
        have h : ∀ (ps : List (List Nat × List Nat)) (as : List Addr), as.length = ps.length → ((ps.zip as).filter fun o => decide (o.1.2 = ar)).length = (ps.filter fun p => decide (p.2 = ar)).length := by
          intro ps
          induction ps with
          | nil => intro as _; simp
          | cons p r ih =>
            intro as hl
            match as, hl with
            | a :: ar', hl =>
              have := ih ar' (by simpa using hl)
              rw [List.zip_cons_cons, List.filter_cons, List.filter_cons]
              by_cases hp : p.2 = ar
              · simp [hp, this]
              · simp [hp, this]
        exact h ps as ln
      rw [e]
      exact q H2 e2
end
end K9

set_option Elab.async false
set_option maxRecDepth 100000
set_option maxHeartbeats 4000000
/-! o.f as a target among others: a, o.f = .. -/
namespace L2
open PySem PySem.Spec PyProof.Rows
section
variable {X : Cx} {o : Expr} {f : Str} {pos : Pos} {to : TE}
def gFld (K : PySem.W.Frag) (to : TE) (f : Str) : TG := fun v σ H Q => to σ H fun x H2 => ∃ a C dx fs, x = .ref a ∧ H2 a = some (.ins C dx fs) ∧ Cls K C ∧ NoAttr K C f ∧ fs.length < 1000 ∧ Q σ (upd H2 a (.ins C dx (putF f v fs)))
theorem pg_fld (ho : PE X o to) : PG X (.Attribute o f pos) (gFld X.K to f) := by
  refine ⟨fun pins s σ H v u Q I r h => ?_⟩
  have ha : assign (.Attribute o f pos) X.env u = (do
      let ov ← holding [u] (eval o X.env)
      standAt pos.atName
      holding [u, ov] (setAttr ov f u)
      release [u, ov] []) := by rfl
  rw [ha]
  refine wpAny_bind (wpAny_holding (thn (ho.run pins s σ H _ I h) fun ov s1 ⟨x, H1, I1, r1, a, C, dx, fs, ex, ea, c, n, l, q⟩ => ?_))
  subst ex
  obtain rfl : ov = Value.ref a := r1
  refine wpAny_bind (wpAny_standAt (wpAny_bind (wpAny_holding (setattr_ok I1 ea c n l r fun s3 I3 => ?_))))
  exact wpAny_release ⟨σ, _, I3, q⟩
end
end L2

set_option Elab.async false
set_option maxRecDepth 100000
set_option maxHeartbeats 4000000
/-! The reader: what it does with a grammar's data, and how its objects look. -/
namespace KL
open PySem PySem.Spec PyProof.Rows L2 SX Evl
/-- what one reading has come to -/
structure Rs where
  closed : Bool
  refused : Bool
  numbered : Bool
  shortened : Option (List Nat)
  awaited : Option (List Nat)
  names : List (List Nat)
  got : List Nat → List V
  placed : List V
def kindF (g : Gr) (n : List Nat) : Option (List Nat) := (g.opts.find? fun o => decide (o.name = n)).map (·.kind)
def letterF (g : Gr) (l : List Nat) : Option (List Nat) := ((g.opts.filter fun o => decide (o.letter ≠ [])).find? fun o => decide (o.letter = l)).map (·.name)
def valueless (k : List Nat) : Bool := decide (k ∈ [kFlag, kCount])
def lone (k : List Nat) : Bool := decide (k ∈ [kFlag, kCount, kMaybe])
def kindOf (g : Gr) (n : List Nat) : List Nat := (kindF g n).getD []
def giveF (g : Gr) (n : List Nat) (x : V) (s : Rs) : Rs :=
  { s with names := if n ∈ s.names then s.names else s.names ++ [n], got := more s.got n x, refused := s.refused || (decide (kindOf g n = kOnce) && decide (1 < (s.got n).length + 1)) }
def awaitF (g : Gr) (n : List Nat) (s : Rs) : Rs := if lone (kindOf g n) then giveF g n (.int 1) s else { s with awaited := some n }
def placeF (g : Gr) (x : V) (s : Rs) : Rs := { s with placed := s.placed ++ [x], closed := s.closed || !g.mixed }
/-- what stands ahead of the first "=", and what stands behind it -/
def cutEq (l : List Nat) : List Nat × Option (List Nat) :=
  match TL.par [61] [] l with
  | some (p, q) => (p, some q)
  | none => (l, none)
theorem par_len (S : List Nat) : ∀ (l acc p q : List Nat), TL.par S acc l = some (p, q) → p.length ≤ acc.length + l.length ∧ q.length ≤ l.length
  | [], acc, p, q, h => by cases h
  | c :: r, acc, p, q, h => by
    rw [TL.par] at h
    split at h
    · obtain ⟨rfl, rfl⟩ := Prod.mk.inj (Option.some.inj h)
      exact ⟨by omega, by rw [List.length_drop]; omega⟩
    · have ih := par_len S r _ p q h
      rw [List.length_append] at ih
      simp at ih ⊢
      omega
def tellS (g : Gr) (t : List Nat) (s : Rs) : Rs :=
  match tellF g t with
  | none => { s with refused := true }
  | some n => if t = n then s else { s with shortened := some t }
def longF (g : Gr) (word : List Nat) (s : Rs) : Rs :=
  match tellF g (cutEq (word.drop 2)).1 with
  | none => { s with refused := true }
  | some n =>
    let s1 : Rs := if (cutEq (word.drop 2)).1 = n then s else { s with shortened := some (cutEq (word.drop 2)).1 }
    match (cutEq (word.drop 2)).2 with
    | none => awaitF g n s1
    | some v => if valueless (kindOf g n) then { s1 with refused := true } else giveF g n (ss v) s1
def lettersF (g : Gr) : List Nat → Rs → Rs
  | [], s => s
  | c :: r, s =>
    match letterF g [c] with
    | none => { s with refused := true }
    | some n => if valueless (kindOf g n) then lettersF g r (giveF g n (.int 1) s) else if r = [] then awaitF g n s else giveF g n (ss r) s
def wordF (g : Gr) (word : List Nat) (s : Rs) : Rs :=
  match s.awaited with
  | some n => giveF g n (ss word) { s with awaited := none }
  | none =>
    if s.closed then { s with placed := s.placed ++ [ss word] }
    else if !dashed word then placeF g (ss word) s
    else if word = [45, 45] then { s with closed := true }
    else if word.take 2 = [45, 45] then longF g word s
    else if readsNum g && number word then placeF g (ss word) { s with numbered := true }
    else lettersF g (word.drop 1) s
def rs0 : Rs := ⟨false, false, false, none, none, [], fun _ => [], []⟩
/-- all words, up to one that is refused -/
def lineF (g : Gr) : List (List Nat) → Rs → Rs
  | [], s => s
  | w :: r, s => if (wordF g w s).refused then wordF g w s else lineF g r (wordF g w s)
def accF (g : Gr) (s : Rs) : Bool := !s.refused && s.awaited.isNone && dealOk g.pls s.placed.length
def lastF (s : Rs) : Bool := s.shortened.isNone && !s.numbered
def acceptedF (g : Gr) (line : List (List Nat)) : Bool := accF g (lineF g line rs0)
def lastsF (g : Gr) (line : List (List Nat)) : Bool := acceptedF g line && lastF (lineF g line rs0)
/-! ### the objects -/
def aw : Option (List Nat) → V
  | none => .non
  | some n => ss n
def mostV (g : Gr) : V := if 0 < arityCount g.pls aMany then .non else .int ((arityCount g.pls aOne : Nat) + (arityCount g.pls aMay : Nat) : Int)
abbrev ruF (g : Gr) (dK dO dL ap : Addr) : List (Str × V) :=
  [("kinds", .ref dK), ("own_letters", .ref dO), ("letters", .ref dL), ("places", .ref ap), ("short", .bl g.short), ("mixed", .bl g.mixed), ("minus", .bl (readsNum g)), ("fewest", .int (arityCount g.pls aOne : Nat)), ("most", mostV g)]
abbrev kindsK (g : Gr) : List (Key × V) := g.opts.map fun o => (kS o.name, ss o.kind)
abbrev ownK (g : Gr) : List (Key × V) := g.opts.map fun o => (kS o.name, ss o.letter)
abbrev lettersK (g : Gr) : List (Key × V) := (g.opts.filter fun o => decide (o.letter ≠ [])).map fun o => (kS o.letter, ss o.name)
/-- the Rules of g at ru -/
structure RuX (K : PySem.W.Frag) (g : Gr) (C : Addr) (H : Hp) (ru dx dK dO dL ap : Addr) : Prop where
  ob : H ru = some (.ins C dx (ruF g dK dO dL ap))
  hK : H dK = some (.dK (kindsK g))
  hO : H dO = some (.dK (ownK g))
  hL : H dL = some (.dK (lettersK g))
  pl : PlsAt K H ap g.pls
def RuAt (K : PySem.W.Frag) (g : Gr) (C : Addr) (H : Hp) (ru : Addr) : Prop := ∃ dx dK dO dL ap, RuX K g C H ru dx dK dO dL ap
theorem RuX.mono {K : PySem.W.Frag} {g : Gr} {C : Addr} {H H' : Hp} {ru dx dK dO dL ap : Addr} (e : Ex H H') (h : RuX K g C H ru dx dK dO dL ap) : RuX K g C H' ru dx dK dO dL ap :=
  ⟨e _ _ h.ob, e _ _ h.hK, e _ _ h.hO, e _ _ h.hL, h.pl.mono e⟩
theorem RuAt.mono {K : PySem.W.Frag} {g : Gr} {C : Addr} {H H' : Hp} {ru : Addr} (e : Ex H H') (h : RuAt K g C H ru) : RuAt K g C H' ru := by
  obtain ⟨dx, dK, dO, dL, ap, h⟩ := h
  exact ⟨dx, dK, dO, dL, ap, h.mono e⟩
theorem val_find {α : Type} (kf : α → List Nat) (F : α → V) : ∀ (l : List α) (t : List Nat), valV (l.map fun y => (kS (kf y), F y)) (kS t) = (l.find? fun o => decide (kf o = t)).map F
  | [], t => rfl
  | y :: r, t => by
    rw [List.map_cons, valV_cons, List.find?_cons]
    by_cases e : kf y = t
    · rw [if_pos (by rw [e]), decide_eq_true e]
      rfl
    · rw [if_neg fun z => e (kS_inj z), decide_eq_false e]
      exact val_find kf F r t
theorem kinds_val {g : Gr} (t : List Nat) : valV (kindsK g) (kS t) = (kindF g t).map ss := by
  unfold kindsK kindF
  rw [val_find (fun o : Opt => o.name) (fun o => ss o.kind), Option.map_map]
  rfl
theorem letters_val {g : Gr} (t : List Nat) : valV (lettersK g) (kS t) = (letterF g t).map ss := by
  unfold lettersK letterF
  rw [val_find (fun o : Opt => o.letter) (fun o => ss o.name), Option.map_map]
  rfl
theorem fold_map {α : Type} (kf : α → List Nat) (F : α → V) : ∀ (l acc : List α), ((acc ++ l).map kf).Nodup →
    l.foldl (fun a y => putK a (kS (kf y)) (F y)) (acc.map fun y => (kS (kf y), F y)) = (acc ++ l).map fun y => (kS (kf y), F y)
  | [], acc, _ => by simp
  | y :: r, acc, nd => by
    have nn : kf y ∉ acc.map kf := by
      rw [List.map_append, List.map_cons] at nd
      have := (List.nodup_append.mp nd).2.2
      intro m
      exact this _ m _ List.mem_cons_self rfl
    have h : valV (acc.map fun y => (kS (kf y), F y)) (kS (kf y)) = none := by
      refine valV_none fun m => nn ?_
      rw [List.map_map] at m
      obtain ⟨z, hz, e⟩ := List.mem_map.mp m
      exact List.mem_map.mpr ⟨z, hz, kS_inj e⟩
    rw [List.foldl_cons, putK_new _ h]
    have ih := fold_map kf F r (acc ++ [y]) (by rw [List.append_assoc]; exact nd)
    rw [List.map_append, List.append_assoc] at ih
    exact ih
theorem fold_map0 {α : Type} (kf : α → List Nat) (F : α → V) (l : List α) (nd : (l.map kf).Nodup) : l.foldl (fun a y => putK a (kS (kf y)) (F y)) [] = l.map fun y => (kS (kf y), F y) := fold_map kf F l [] nd
/-- where the parts of a reading stand -/
structure RI where
  me : Addr
  dx : Addr
  ru : Addr
  dG : Addr
  pL : Addr
  xs : List (Str × V)
abbrev flds (i : RI) (s : Rs) : List (Str × V) :=
  ("rules", .ref i.ru) :: ("closed", .bl s.closed) :: ("awaited", aw s.awaited) :: ("refused", .bl s.refused) :: ("shortened", aw s.shortened) :: ("numbered", .bl s.numbered) :: ("got", .ref i.dG) :: ("placed", .ref i.pL) :: i.xs
theorem Rep.keep {H0 H H1 : Hp} {D : Addr} {ts : List (List Nat)} {ps : List Addr} {c : List Nat → List V} (R : Rep H0 H D ts ps c) (e : Ex H0 H1) (hD : H1 D = H D) (hp : ∀ p ∈ ps, H1 p = H p) : Rep H0 H1 D ts ps c :=
  ⟨e, by rw [hD]; exact R.dk, R.len, R.nd, R.nc, R.ne, fun i t p a b => by rw [hp p (List.mem_of_getElem? b)]; exact R.at_ i t p a b, R.dp, R.fr, R.nD⟩
def metN : List Str := ["give", "give_or_await", "read_place_word", "read_long", "read_letters", "read_word", "tell", "is_accepted", "is_lasting", "held_pairs", "filled_pairs", "what_is_held", "shape", "is_sure", "read_piece", "read_long_with", "read_letters_with"]
/-- the reader of the grammar g, by the Rules of the class CR, has come to s; nothing of H0 is touched; m bounds the lengths -/
structure RdAt (K : PySem.W.Frag) (g : Gr) (CR C : Addr) (H0 H : Hp) (i : RI) (ps : List Addr) (s : Rs) (m : Nat) : Prop where
  ob : H i.me = some (.ins C i.dx (flds i s))
  few : i.xs.length ≤ 10
  xm : ∀ x ∈ metN, i.xs.lookup x = none
  ru_ : RuAt K g CR H0 i.ru
  rep : Rep H0 H i.dG s.names ps s.got
  cm : ∀ n, (s.got n).length ≤ m
  tm : s.names.length ≤ m
  pL_ : H i.pL = some (.lst s.placed)
  pm : s.placed.length ≤ m
  np : i.pL ∉ ps
  f0 : H0 i.me = none
  f1 : H0 i.pL = none
  an : ∀ n, s.awaited = some n → (kindF g n).isSome = true
def Rd_ (K : PySem.W.Frag) (g : Gr) (CR C : Addr) (H0 H : Hp) (i : RI) (s : Rs) (m : Nat) : Prop := ∃ ps, RdAt K g CR C H0 H i ps s m
section
variable {K : PySem.W.Frag} {g : Gr} {CR C : Addr} {H0 H H1 H2 : Hp} {i : RI} {ps : List Addr} {s : Rs} {m : Nat}
theorem RdAt.fewer (R : RdAt K g CR C H0 H i ps s m) : (flds i s).length < 1000 := by
  have := R.few
  show i.xs.length + 8 < 1000
  omega
theorem RdAt.met (R : RdAt K g CR C H0 H i ps s m) (x : Str) (h : x ∈ metN := by decide +kernel) : (flds i s).lookup x = none := by
  have z := (show ∀ x ∈ metN, (["rules", "closed", "awaited", "refused", "shortened", "numbered", "got", "placed"] : List Str).all (fun y => !(x == y)) = true by decide +kernel) x h
  simp only [List.all_cons, List.all_nil, Bool.and_eq_true, Bool.not_eq_true', and_true] at z
  obtain ⟨a1, a2, a3, a4, a5, a6, a7, a8⟩ := z
  simp only [List.lookup_cons, a1, a2, a3, a4, a5, a6, a7, a8]
  exact R.xm x h
theorem RdAt.ru (R : RdAt K g CR C H0 H i ps s m) : RuAt K g CR H i.ru := R.ru_.mono R.rep.ex
theorem RdAt.self_ne (R : RdAt K g CR C H0 H i ps s m) : i.me ≠ i.pL ∧ i.me ≠ i.dG ∧ i.me ∉ ps ∧ i.dG ≠ i.pL := by
  refine ⟨ne_of R.ob R.pL_ (by intro z; cases z), ne_of R.ob R.rep.dk (by intro z; cases z), fun z => ?_, ne_of R.rep.dk R.pL_ (by intro z; cases z)⟩
  obtain ⟨j, hj, e⟩ := List.mem_iff_getElem.mp z
  have h1 : ps[j]? = some i.me := by rw [← e]; exact List.getElem?_eq_getElem hj
  have h2 : j < s.names.length := by rw [← R.rep.len]; exact hj
  have h3 := R.rep.at_ j s.names[j] i.me (List.getElem?_eq_getElem h2) h1
  rw [R.ob] at h3
  cases h3
/-- all is kept -/
theorem RdAt.mono (R : RdAt K g CR C H0 H i ps s m) (e : Ex H H1) : RdAt K g CR C H0 H1 i ps s m :=
  { R with ob := e _ _ R.ob, rep := R.rep.mono e, pL_ := e _ _ R.pL_ }
theorem Rd_.mono (R : Rd_ K g CR C H0 H i s m) (e : Ex H H1) : Rd_ K g CR C H0 H1 i s m := by
  obtain ⟨ps, R⟩ := R
  exact ⟨ps, R.mono e⟩
theorem RdAt.le (R : RdAt K g CR C H0 H i ps s m) {m' : Nat} (h : m ≤ m') : RdAt K g CR C H0 H i ps s m' :=
  { R with cm := fun n => Nat.le_trans (R.cm n) h, tm := Nat.le_trans R.tm h, pm := Nat.le_trans R.pm h }
theorem Rd_.le (R : Rd_ K g CR C H0 H i s m) {m' : Nat} (h : m ≤ m') : Rd_ K g CR C H0 H i s m' := by
  obtain ⟨ps, R⟩ := R
  exact ⟨ps, R.le h⟩
/-- a field of the object is stored -/
theorem RdAt.store (R : RdAt K g CR C H0 H i ps s m) (s' : Rs) (hn : s'.names = s.names) (hg : s'.got = s.got) (hp : s'.placed = s.placed) (ha : ∀ n, s'.awaited = some n → (kindF g n).isSome = true) :
    RdAt K g CR C H0 (upd H i.me (.ins C i.dx (flds i s'))) i ps s' m := by
  obtain ⟨s1, s2, s3, s4⟩ := R.self_ne
  exact
  { ob := upd_same
    few := R.few
    xm := R.xm
    ru_ := R.ru_
    rep := by
      rw [hn, hg]
      exact R.rep.keep (Ex.mut R.rep.ex R.f0) (upd_ne (Ne.symm s2)) fun p hp => upd_ne fun z => s3 (z ▸ hp)
    cm := by rw [hg]; exact R.cm
    tm := by rw [hn]; exact R.tm
    pL_ := by rw [upd_ne (Ne.symm s1), hp]; exact R.pL_
    pm := by rw [hp]; exact R.pm
    np := R.np
    f0 := R.f0
    f1 := R.f1
    an := ha }
/-- a word is placed -/
theorem RdAt.place (R : RdAt K g CR C H0 H i ps s m) (x : V) :
    RdAt K g CR C H0 (upd H i.pL (.lst (s.placed ++ [x]))) i ps { s with placed := s.placed ++ [x] } (m + 1) := by
  obtain ⟨s1, s2, s3, s4⟩ := R.self_ne
  exact
  { ob := by rw [upd_ne s1]; exact R.ob
    few := R.few
    xm := R.xm
    ru_ := R.ru_
    rep := R.rep.keep (Ex.mut R.rep.ex R.f1) (upd_ne s4) fun p hp => upd_ne fun z => R.np (z ▸ hp)
    cm := fun n => Nat.le_succ_of_le (R.cm n)
    tm := Nat.le_succ_of_le R.tm
    pL_ := upd_same
    pm := by
      have := R.pm
      show (s.placed ++ [x]).length ≤ m + 1
      rw [List.length_append]
      exact Nat.succ_le_succ this
    np := R.np
    f0 := R.f0
    f1 := R.f1
    an := R.an }
/-- something is given: the lists of the dict of what was got have changed -/
theorem RdAt.gave (R : RdAt K g CR C H0 H i ps s m) {ts' : List (List Nat)} {ps' : List Addr} {n : List Nat} {x : V} (R2 : Rep H0 H2 i.dG ts' ps' (more s.got n x)) (kp : ∀ b o, H b = some o → b ≠ i.dG → b ∉ ps' → H2 b = some o)
    (hme : i.me ∉ ps') (hp : i.pL ∉ ps') (lt : ts'.length ≤ m + 1) : RdAt K g CR C H0 H2 i ps' { s with names := ts', got := more s.got n x } (m + 1) := by
  obtain ⟨s1, s2, s3, s4⟩ := R.self_ne
  exact
  { ob := kp _ _ R.ob s2 hme
    few := R.few
    xm := R.xm
    ru_ := R.ru_
    rep := R2
    cm := fun u => by
      have := R.cm u
      show (more s.got n x u).length ≤ m + 1
      unfold more
      split
      · rw [List.length_append]
        exact Nat.succ_le_succ this
      · omega
    tm := lt
    pL_ := kp _ _ R.pL_ (Ne.symm s4) hp
    pm := Nat.le_succ_of_le R.pm
    np := hp
    f0 := R.f0
    f1 := R.f1
    an := R.an }
theorem lit_once_eq (k : List Nat) : decide (ss k = V.str "once") = decide (k = kOnce) := by rw [lit_once]; exact ss_eq
theorem in_valueless (k : List Nat) : inV (ss k) [.str "flag", .str "count"] = valueless k := by rw [valueless_lit]; exact inV_ss k _
theorem in_lone (k : List Nat) : inV (ss k) [.str "flag", .str "count", .str "maybe"] = lone k := by rw [lone_lit]; exact inV_ss k _
theorem kindOf_some {n : List Nat} (h : (kindF g n).isSome = true) : kindF g n = some (kindOf g n) := by
  unfold kindOf
  cases e : kindF g n with
  | none =>
    rw [e] at h
    cases h
  | some k => rfl
end
theorem lettersF_none {g : Gr} {c : Nat} {r : List Nat} {s : Rs} (h : letterF g [c] = none) : lettersF g (c :: r) s = { s with refused := true } := by
  rw [lettersF, h]
theorem lettersF_some {g : Gr} {c : Nat} {r : List Nat} {s : Rs} {n : List Nat} (h : letterF g [c] = some n) :
    lettersF g (c :: r) s = if valueless (kindOf g n) then lettersF g r (giveF g n (.int 1) s) else if r = [] then awaitF g n s else giveF g n (ss r) s := by
  rw [lettersF, h]
theorem wordF_none {g : Gr} {w : List Nat} {s : Rs} (h : s.awaited = none) : wordF g w s = if s.closed then { s with placed := s.placed ++ [ss w] }
    else if !dashed w then placeF g (ss w) s
    else if w = [45, 45] then { s with closed := true }
    else if w.take 2 = [45, 45] then longF g w s
    else if readsNum g && number w then placeF g (ss w) { s with numbered := true }
    else lettersF g (w.drop 1) s := by
  rw [wordF, h]
theorem wordF_some {g : Gr} {w n : List Nat} {s : Rs} (h : s.awaited = some n) : wordF g w s = giveF g n (ss w) { s with awaited := none } := by
  rw [wordF, h]
theorem kindF_of {g : Gr} {n : List Nat} (h : n ∈ g.names) : (kindF g n).isSome = true := by
  obtain ⟨o, ho, rfl⟩ := List.mem_map.mp h
  unfold kindF
  rw [Option.isSome_map, List.find?_isSome]
  exact ⟨o, ho, by simp⟩
theorem letterF_kind {g : Gr} {l n : List Nat} (h : letterF g l = some n) : (kindF g n).isSome = true := by
  unfold letterF at h
  obtain ⟨o, ho, rfl⟩ := Option.map_eq_some_iff.mp h
  have := List.mem_of_find?_eq_some ho
  exact kindF_of (List.mem_map.mpr ⟨o, (List.mem_filter.mp this).1, rfl⟩)
theorem tellF_kind {g : Gr} {t n : List Nat} (h : tellF g t = some n) : (kindF g n).isSome = true := by
  unfold tellF at h
  by_cases m : t ∈ g.names
  · rw [if_pos m] at h
    cases h
    exact kindF_of m
  · rw [if_neg m] at h
    cases hs : g.short with
    | false =>
      rw [hs] at h
      exact nomatch h
    | true =>
      rw [hs] at h
      have h : onlyOne g.names t = some n := h
      unfold onlyOne at h
      split at h
      · rename_i x e
        cases h
        have : n ∈ g.names.filter (begins t) := by rw [e]; exact List.mem_singleton.mpr rfl
        exact kindF_of (List.mem_filter.mp this).1
      · cases h
/-- what the classes say of themselves -/
structure RdC (K : PySem.W.Frag) (C : Addr) : Prop where
  cl : Cls K C
  rules : NoAttr K C "rules"
  closed : NoAttr K C "closed"
  awaited : NoAttr K C "awaited"
  refused : NoAttr K C "refused"
  shortened : NoAttr K C "shortened"
  numbered : NoAttr K C "numbered"
  got : NoAttr K C "got"
  placed : NoAttr K C "placed"
structure RuC (K : PySem.W.Frag) (C : Addr) : Prop where
  cl : Cls K C
  kinds : NoAttr K C "kinds"
  own_letters : NoAttr K C "own_letters"
  letters : NoAttr K C "letters"
  places : NoAttr K C "places"
  short : NoAttr K C "short"
  mixed : NoAttr K C "mixed"
  minus : NoAttr K C "minus"
  fewest : NoAttr K C "fewest"
  most : NoAttr K C "most"
/-! ### promises of the methods -/
def takesF (g : Gr) (c : Int) : Bool := decide (0 < arityCount g.pls aMany) || decide (c ≤ ((arityCount g.pls aOne : Nat) + (arityCount g.pls aMay : Nat) : Int))
def spTells (K : PySem.W.Frag) (CR : Addr) : Sp := spP 2 fun vs H v => ∃ (g : Gr) (ru : Addr) (t : List Nat), vs = [.ref ru, ss t] ∧ RuAt K g CR H ru ∧ g.Ok ∧ t.length ≤ 1000 ∧ v = aw (tellF g t)
def spTakes (K : PySem.W.Frag) (CR : Addr) : Sp := spP 2 fun vs H v => ∃ (g : Gr) (ru : Addr) (c : Int), vs = [.ref ru, .int c] ∧ RuAt K g CR H ru ∧ v = .bl (takesF g c)
def spDeals (K : PySem.W.Frag) (CR : Addr) : Sp := spP 2 fun vs H v => ∃ (g : Gr) (ru : Addr) (n : Nat), vs = [.ref ru, .int (n : Nat)] ∧ RuAt K g CR H ru ∧ v = .bl (dealOk g.pls n)
def spSpan (K : PySem.W.Frag) : Sp := fun vs H Q _ => ∃ (a : Addr) (g : Gr), vs = [.ref a] ∧ PlsAt K H a g.pls ∧ g.pls.length ≤ 5 ∧ ∀ p H', Ex H H' → SqT K H' p [.int (arityCount g.pls aOne : Nat), mostV g] → Q (.ref p) H'
def spGive (K : PySem.W.Frag) (CR C : Addr) : Sp := fun vs H Q _ => ∃ (g : Gr) (H0 : Hp) (i : RI) (n : List Nat) (x : V) (s : Rs) (m : Nat), vs = [.ref i.me, ss n, x] ∧ Rd_ K g CR C H0 H i s m ∧ m < 50000 ∧ (kindF g n).isSome = true ∧
  ∀ H', Rd_ K g CR C H0 H' i (giveF g n x s) (m + 1) → Q .non H'
def spAwait (K : PySem.W.Frag) (CR C : Addr) : Sp := fun vs H Q _ => ∃ (g : Gr) (H0 : Hp) (i : RI) (n : List Nat) (s : Rs) (m : Nat), vs = [.ref i.me, ss n] ∧ Rd_ K g CR C H0 H i s m ∧ m < 50000 ∧ (kindF g n).isSome = true ∧
  ∀ H', Rd_ K g CR C H0 H' i (awaitF g n s) (m + 1) → Q .non H'
def spPlaceW (K : PySem.W.Frag) (CR C : Addr) : Sp := fun vs H Q _ => ∃ (g : Gr) (H0 : Hp) (i : RI) (x : V) (s : Rs) (m : Nat), vs = [.ref i.me, x] ∧ Rd_ K g CR C H0 H i s m ∧ m < 50000 ∧
  ∀ H', Rd_ K g CR C H0 H' i (placeF g x s) (m + 1) → Q .non H'
def spTell (K : PySem.W.Frag) (CR C : Addr) : Sp := fun vs H Q _ => ∃ (g : Gr) (H0 : Hp) (i : RI) (t : List Nat) (s : Rs) (m : Nat), vs = [.ref i.me, ss t] ∧ g.Ok ∧ t.length ≤ 1000 ∧ Rd_ K g CR C H0 H i s m ∧
  ∀ H', Rd_ K g CR C H0 H' i (tellS g t s) m → Q (aw (tellF g t)) H'
def spLong (K : PySem.W.Frag) (CR C : Addr) : Sp := fun vs H Q _ => ∃ (g : Gr) (H0 : Hp) (i : RI) (l : List Nat) (s : Rs) (m : Nat), vs = [.ref i.me, ss l] ∧ g.Ok ∧ l.length ≤ 1000 ∧ Rd_ K g CR C H0 H i s m ∧ m < 50000 ∧
  ∀ H', Rd_ K g CR C H0 H' i (longF g l s) (m + 1) → Q .non H'
def spLetters (K : PySem.W.Frag) (CR C : Addr) : Sp := fun vs H Q _ => ∃ (g : Gr) (H0 : Hp) (i : RI) (l : List Nat) (s : Rs) (m : Nat), vs = [.ref i.me, ss l] ∧ g.Ok ∧ 1 ≤ l.length ∧ l.length ≤ 1000 ∧ Rd_ K g CR C H0 H i s m ∧ m < 40000 ∧
  ∀ H', Rd_ K g CR C H0 H' i (lettersF g (l.drop 1) s) (m + l.length) → Q .non H'
def spWordM (K : PySem.W.Frag) (CR C : Addr) : Sp := fun vs H Q _ => ∃ (g : Gr) (H0 : Hp) (i : RI) (l : List Nat) (s : Rs) (m : Nat), vs = [.ref i.me, ss l] ∧ g.Ok ∧ l.length ≤ 1000 ∧ Rd_ K g CR C H0 H i s m ∧ m < 40000 ∧
  ∀ H', Rd_ K g CR C H0 H' i (wordF g l s) (m + l.length + 1) → Q .non H'
/-- all but what stands at me is kept -/
def ExB (me : Addr) (H H' : Hp) : Prop := ∀ b o, b ≠ me → H b = some o → H' b = some o
theorem ExB.of {me : Addr} {H H' : Hp} (e : Ex H H') : ExB me H H' := fun b o _ h => e b o h
theorem ExB.put {me : Addr} {H : Hp} {o : HO} : ExB me H (upd H me o) := fun b u hb h => by rw [upd_ne hb]; exact h
theorem ExB.trans {me : Addr} {H H1 H2 : Hp} (a : ExB me H H1) (b : ExB me H1 H2) : ExB me H H2 := fun c o hc h => b c o hc (a c o hc h)
theorem ExB.ex {me : Addr} {H0 H H1 : Hp} (e : Ex H0 H) (n : H0 me = none) (a : ExB me H H1) : Ex H0 H1 := fun b o h => a b o (ne_of_none h n) (e b o h)
def spInitU (K : PySem.W.Frag) (C : Addr) : Sp := fun vs H Q _ => ∃ (g : Gr) (H0 : Hp) (me dx a : Addr), vs = [.ref me, .ref a] ∧ H me = some (.ins C dx []) ∧ Ex H0 H ∧ H0 me = none ∧ GrAt K H0 a g ∧ g.Ok ∧
  ∀ H', Ex H0 H' → RuAt K g C H' me → Q .non H'
def spInitR (K : PySem.W.Frag) (CR C : Addr) : Sp := fun vs H Q _ => ∃ (g : Gr) (H0 : Hp) (me dx ru : Addr), vs = [.ref me, .ref ru] ∧ H me = some (.ins C dx []) ∧ Ex H0 H ∧ H0 me = none ∧ RuAt K g CR H0 ru ∧
  ∀ H' dG pL, Rd_ K g CR C H0 H' ⟨me, dx, ru, dG, pL, []⟩ rs0 0 → Q .non H'
def totL (line : List (List Nat)) : Nat := (line.map fun l => l.length + 1).sum
theorem tot_le {line : List (List Nat)} (h : ∀ l ∈ line, l.length ≤ 80) (n : line.length ≤ 80) : totL line < 40000 := by
  have z : ∀ line : List (List Nat), (∀ l ∈ line, l.length ≤ 80) → totL line ≤ 81 * line.length := by
    intro line
    induction line with
    | nil => intro _; exact Nat.le_refl _
    | cons a r ih =>
      intro h
      have h1 := h a List.mem_cons_self
      have h2 := ih fun l hl => h l (List.mem_cons_of_mem _ hl)
      unfold totL at h2 ⊢
      rw [List.map_cons, List.sum_cons, List.length_cons]
      omega
  have := z line h
  omega
def spReadBy (K : PySem.W.Frag) (CR C : Addr) : Sp := fun vs H Q _ => ∃ (g : Gr) (ru b : Addr) (line : List (List Nat)), vs = [.ref ru, .ref b] ∧ RuAt K g CR H ru ∧ g.Ok ∧ SqT K H b (line.map ss) ∧ line.length ≤ 1000 ∧ (∀ l ∈ line, l.length ≤ 1000) ∧ totL line < 40000 ∧
  ∀ i m H', Rd_ K g CR C H H' i (lineF g line rs0) m → m ≤ totL line → Q (.ref i.me) H'
def spIsAcc (K : PySem.W.Frag) (CR C : Addr) : Sp := spP 1 fun vs H v => ∃ (g : Gr) (H0 : Hp) (i : RI) (s : Rs) (m : Nat), vs = [.ref i.me] ∧ Rd_ K g CR C H0 H i s m ∧ v = .bl (accF g s)
def spIsLast (K : PySem.W.Frag) (CR C : Addr) : Sp := spP 1 fun vs H v => ∃ (g : Gr) (H0 : Hp) (i : RI) (s : Rs) (m : Nat), vs = [.ref i.me] ∧ Rd_ K g CR C H0 H i s m ∧ v = .bl (lastF s)
def spLasts (K : PySem.W.Frag) : Sp := spP 2 fun vs H v => ∃ (g : Gr) (a b : Addr) (line : List (List Nat)), vs = [.ref a, .ref b] ∧ GrAt K H a g ∧ g.Ok ∧ SqT K H b (line.map ss) ∧ line.length ≤ 80 ∧ (∀ l ∈ line, wordOk l = true) ∧ v = .bl (lastsF g line)
end KL

set_option Elab.async false
set_option maxRecDepth 100000
set_option maxHeartbeats 4000000
namespace K9
open PySem PySem.Spec PyProof.Rows L2 SX Evl KL
theorem begins_iff {t x : List Nat} (hz : t ≠ []) (h : x.take t.length = t) : begins t x = true := by
  unfold begins
  rw [Bool.and_eq_true, decide_eq_true_eq, List.isPrefixOf_iff_prefix]
  exact ⟨hz, by rw [← h]; exact List.take_prefix _ _⟩
theorem begins_not {t x : List Nat} (h : ¬ x.take t.length = t) : begins t x = false := by
  rw [Bool.eq_false_iff]
  intro e
  unfold begins at e
  rw [Bool.and_eq_true, decide_eq_true_eq, List.isPrefixOf_iff_prefix] at e
  obtain ⟨_, r, e⟩ := e
  exact h (by rw [← e]; simp)
section
variable {P : Program} {w : World} {K : PySem.W.Frag} {mg : Str → Option Value} {base : Heap} {f : Addr} {fd : FuncData} {aK aA aV aL CR C : Addr}
abbrev s_span : Stmt := top 36
theorem sc_span : FnScope ["places", "fewest"] ["places"] (C8.fnScope s_span) := C8.fnScope_by (by decide +kernel)
theorem ok_span (F : C8.Def K mg "span" s_span f fd) (b : Binds K fd ["places"] []) (B : Blt mg) (C_count_arity : C8.Cal P w K mg base 1 "count_arity" (spCountA K) []) : C8.Cal P w K mg base 2 "span" (spSpan K) [] :=
  C8.cal0 F b .nil sc_span (fun vs H Q E h => by obtain ⟨_, _, rfl, _⟩ := h; rfl) fun cdv A outer s H vs Q E hr h => by
    have nd := sc_span.nd
    obtain ⟨a, g, rfl, hp, l5, q⟩ := h
    have sz2 : 2 ≤ sizeLine := sz_of (by decide)
    refine ⟨_, (pss_cons (ps_set (i := 1) nd rfl (by first | exact Or.inl rfl | exact Or.inr rfl) (C8.pe_c C_count_arity hr (by decide) rfl (pa_cons (pv 0) (pa_cons pe_str pa_nil))))
      (pss_cons (ps_if (pt_cmpR op_gt (C8.pe_c C_count_arity hr (by decide) rfl (pa_cons (pv 0) (pa_cons pe_str pa_nil))) pe_int (nomark _)) (pss_one (ps_ret (pe_tup (pa_cons (pv 1) (pa_cons pe_non pa_nil))))) pss_nil)
      (pss_one (ps_ret (pe_tup (pa_cons (pv 1) (pa_cons (pe_op op_add (pv 1) (C8.pe_c C_count_arity hr (by decide) rfl (pa_cons (pv 0) (pa_cons pe_str pa_nil)))) pa_nil))))))), ?_⟩
    refine ⟨_, rfl, rfl, _, ⟨a, g.pls, aOne, by rw [lit_one]; rfl, hp, l5, rfl⟩, fun H1 e1 => ?_⟩
    refine ⟨_, rfl, rfl, _, ⟨a, g.pls, aMany, by rw [lit_many]; rfl, hp.mono e1, l5, rfl⟩, fun H2 e2 => ⟨_, _, rfl, rfl, _, rfl, ?_⟩⟩
    have e12 := e1.trans e2
    by_cases hm : 0 < arityCount g.pls aMany
    · rw [decide_eq_true (show (0 : Int) < (arityCount g.pls aMany : Nat) by omega)]
      refine iteT ⟨_, rfl, sz2, fun p hp' => q p _ (e12.trans (Ex.new hp')) ?_⟩
      unfold mostV
      rw [if_pos hm]
      exact st_of upd_same
    · rw [decide_eq_false (show ¬ (0 : Int) < (arityCount g.pls aMany : Nat) by omega)]
      refine iteF ⟨_, rfl, _, rfl, _, rfl, rfl, _, ⟨a, g.pls, aMay, by rw [lit_may]; rfl, hp.mono e12, l5, rfl⟩, fun H3 e3 => ⟨_, _, rfl, rfl, sz2, fun p hp' => q p _ ((e12.trans e3).trans (Ex.new hp')) ?_⟩⟩
      unfold mostV
      rw [if_neg hm]
      exact st_of upd_same
abbrev s_tells : Stmt := inClass (top 38) 1
theorem sc_tells : FnScope ["self", "told", "found", "name"] ["self", "told"] (C8.fnScope s_tells) := C8.fnScope_by (by decide +kernel)
theorem ok_tells (T' : RuC K CR) (me : Meth K CR "tells" f) (F : C8.Fun K "tells" "Rules.tells" s_tells f fd) (b : Binds K fd ["self", "told"] []) (B : Blt mg) : C8.Met P w K mg base 1 CR "tells" (spTells K CR) [] :=
  C8.met0 T'.cl me F b sc_tells (fun vs H Q E h => h.1) fun cdv A outer s H vs Q E hr h => by
    have nd := sc_tells.nd
    have hu := hu_of hr
    obtain ⟨_, v, ⟨g, ru, t, rfl, ⟨dx, dK, dO, dL, ap, R⟩, ok, lt, rfl⟩, q⟩ := h
    have ob := R.ob
    have hK := R.hK
    refine ⟨_, (pss_cons (ps_if (pt_cmp (pc_din hu (pv 1) (pe_fld (pv 0) rfl))) (pss_one (ps_ret (pv 1))) pss_nil)
      (pss_cons (ps_if (PW.pt (pw_or (pt_not (pt_val (pe_fld (pv 0) rfl))) (pw_or1 (pt_cmpR op_eq (pv 1) pe_str (nomark _))))) (pss_one (ps_ret pe_non)) pss_nil)
      (pss_cons (ps_lock (ps_setLc (i := 2) (own := [("name", 3)]) rfl nd rfl rfl (sw_true rfl rfl rfl (by decide +kernel)) (pi_keys (pe_fld (pv 0) rfl)) (blkOk_by (N := ["self", "told", "found", "name"]) (sc := C8.fnScope s_tells) (by decide +kernel)) (fun _ _ _ _ _ => (pg_name (i := 3) nd rfl (by first | exact Or.inl rfl | exact Or.inr rfl))) (fun _ _ _ _ _ => (pts_one (pt_val (pe_m1 PySem.F.slot_str_startswith PySem.F.type_str_startswith mt_startswith (pv 3) (pv 1))))) (fun _ _ _ _ _ => (pv 3))))
      (pss_one (ps_ret (pe_ifExp (pt_cmpR op_eq (pe_callB (id := "len") call_len_seq (by rfl) B.len_ (by decide +kernel) (pa_cons (pv 2) pa_nil)) pe_int (nomark _)) (pe_ix ix_list (pv 2) pe_int (fun _ _ => rfl)) pe_non)))))), ?_⟩
    refine ⟨_, rfl, _, rfl, ru, CR, dx, _, _, rfl, ob, T'.cl, T'.kinds, rfl, dK, _, rfl, .inl ⟨_, kS t, .inl hK, rfl, rfl⟩, _, rfl, ?_⟩
    rw [kinds_val]
    by_cases hm : t ∈ g.names
    · have k1 := kindF_of hm
      have z := q H (Ex.refl _)
      rw [show tellF g t = some t by unfold tellF; rw [if_pos hm]] at z
      cases hk : kindF g t with
      | none =>
        rw [hk] at k1
        cases k1
      | some k => exact iteT ⟨_, rfl, z⟩
    have k0 : kindF g t = none := by
      unfold kindF
      rw [Option.map_eq_none_iff, List.find?_eq_none]
      intro o ho hc
      exact hm (List.mem_map.mpr ⟨o, ho, of_decide_eq_true hc⟩)
    rw [k0]
    have tf : tellF g t = if g.short then onlyOne g.names t else none := by unfold tellF; rw [if_neg hm]
    refine iteF ⟨_, rfl, ru, CR, dx, _, _, rfl, ob, T'.cl, T'.short, rfl, g.short, rfl, ?_⟩
    cases hs : g.short with
    | false =>
      have z := q H (Ex.refl _)
      rw [tf, hs] at z
      exact iteT z
    | true =>
      rw [hs] at tf
      have tf : tellF g t = onlyOne g.names t := tf
      refine iteF ?_
      refine ⟨_, rfl, rfl, _, rfl, ?_⟩
      rw [lit_nil, ss_eq]
      by_cases hz : t = []
      · rw [decide_eq_true hz]
        have z := q H (Ex.refl _)
        rw [tf] at z
        have e : onlyOne g.names t = none := by
          subst hz
          unfold onlyOne
          rw [show g.names.filter (begins []) = [] from List.filter_eq_nil_iff.mpr fun x _ => by unfold begins; simp]
        rw [e] at z
        exact iteT z
      rw [decide_eq_false hz]
      refine iteF ?_
      -- found = [name for name in self.kinds if name.startswith(told)]
      have len24 := ok.ol
      have lnm : g.names.length = g.opts.length := List.length_map _
      refine ⟨dK, _, hK, trivial, fun od => ?_⟩
      have nru : ru ≠ dK := ne_of ob hK (by intro z; cases z)
      refine ⟨_, rfl, ru, CR, dx, _, _, rfl, by rw [upd_ne nru]; exact ob, T'.cl, T'.kinds, rfl, dK, od, rfl, .inl ⟨_, upd_same, fun D hD => ?_⟩⟩
      have nD : D ≠ dK := fun z => by rw [z, upd_same] at hD; cases hD
      refine lc_ys (L2.walk_keys (o := od) (d := dK) (kvs := kindsK g)) g.names (by show (kindsK g).length = _; rw [List.length_map, lnm]) (by show (kindsK g).length ≤ _; rw [List.length_map]; omega) (begins t) ss hD (fun H2 e2 => e2 _ _ upd_same) ?_ ?_
      · rintro i n x H2 H3 hi e2 ⟨rfl, k, v, hx, rfl⟩ Z N hz' hn
        obtain ⟨o, ho, rfl⟩ : ∃ o, g.opts[i]? = some o ∧ o.name = n := by
          unfold Gr.names at hi
          rw [List.getElem?_map] at hi
          exact Option.map_eq_some_iff.mp hi
        have hx : (kindsK g)[i]? = some (k, v) := hx
        rw [List.getElem?_map, ho] at hx
        obtain ⟨rfl, rfl⟩ := Prod.mk.inj (Option.some.inj hx)
        refine ⟨rfl, ?_⟩
        refine ⟨_, rfl, ⟨_, rfl⟩, _, rfl, _, _, rfl, rfl, _, rfl, ?_⟩
        rw [st_S]
        by_cases h : o.name.take t.length = t
        · rw [decide_eq_true h]
          exact iteT ⟨_, rfl, hz' H3 (Ex.refl _) (begins_iff hz h)⟩
        · rw [decide_eq_false h]
          exact iteF (hn H3 (Ex.refl _) (begins_not h))
      · intro H2 e2 h2
        refine ⟨e2 _ _ upd_same, ?_⟩
        have ex2 : Ex H (upd H2 dK (.dK (kindsK g))) := fun b o hb => by
          by_cases h : b = dK
          · rw [h] at hb ⊢
            rw [upd_same]
            rw [hK] at hb
            exact hb
          · rw [upd_ne h]
            exact e2 _ _ (by rw [upd_ne h]; exact hb)
        have hD2 : upd H2 dK (.dK (kindsK g)) D = some (.lst ((g.names.filter (begins t)).map ss)) := by rw [upd_ne nD]; exact h2
        generalize upd H2 dK (.dK (kindsK g)) = H3 at ex2 hD2
        have z := q H3 ex2
        rw [tf] at z
        unfold onlyOne at z
        refine ⟨_, rfl, D, _, rfl, .inl (sq_of hD2), rfl, _, rfl, ?_⟩
        rw [List.length_map]
        match hf : g.names.filter (begins t) with
        | [] =>
          rw [hf] at z
          exact iteF z
        | [n] =>
          rw [hf] at z hD2
          exact iteT ⟨_, rfl, D, _, 0, _, rfl, rfl, sq_of hD2, atI_nat (j := 0) rfl, z⟩
        | n :: n2 :: r =>
          rw [hf] at z
          rw [show decide (V.int (((n :: n2 :: r).length : Nat) : Int) = V.int 1) = false from decide_eq_false fun y => by have y := V.int.inj y; simp at y; omega]
          exact iteF z
abbrev s_takes_words : Stmt := inClass (top 38) 4
theorem sc_takes_words : FnScope ["self", "count"] ["self", "count"] (C8.fnScope s_takes_words) := C8.fnScope_by (by decide +kernel)
theorem ok_takes (T' : RuC K CR) (me : Meth K CR "takes_words" f) (F : C8.Fun K "takes_words" "Rules.takes_words" s_takes_words f fd) (b : Binds K fd ["self", "count"] []) (B : Blt mg) : C8.Met P w K mg base 1 CR "takes_words" (spTakes K CR) [] :=
  C8.met0 T'.cl me F b sc_takes_words (fun vs H Q E h => h.1) fun cdv A outer s H vs Q E hr h => by
    have nd := sc_takes_words.nd
    obtain ⟨_, v, ⟨g, ru, c, rfl, ⟨dx, dK, dO, dL, ap, R⟩, rfl⟩, q⟩ := h
    have ob := R.ob
    refine ⟨_, (pss_one (ps_ret (pe_or (pe_cmp (pc_isN (pe_fld (pv 0) rfl)) rfl) (pe_one (pe_cmpR op_ge (pe_fld (pv 0) rfl) (pv 1) (nomark _)))))), ?_⟩
    have z := q H (Ex.refl _)
    unfold takesF at z
    refine ⟨_, rfl, ru, CR, dx, _, _, rfl, ob, T'.cl, T'.most, rfl, _, rfl, ?_⟩
    by_cases hm : 0 < arityCount g.pls aMany
    · have hv : mostV g = .non := by unfold mostV; rw [if_pos hm]
      rw [hv]
      rw [decide_eq_true hm, Bool.true_or] at z
      exact iteT z
    · have hv : mostV g = .int ((arityCount g.pls aOne : Nat) + (arityCount g.pls aMay : Nat) : Int) := by unfold mostV; rw [if_neg hm]
      rw [hv]
      rw [decide_eq_false hm, Bool.false_or] at z
      exact iteF ⟨_, rfl, ru, CR, dx, _, _, rfl, R.ob, T'.cl, T'.most, rfl, _, rfl, _, _, hv, rfl, z⟩
abbrev s_deals : Stmt := inClass (top 38) 5
theorem sc_deals : FnScope ["self", "count"] ["self", "count"] (C8.fnScope s_deals) := C8.fnScope_by (by decide +kernel)
theorem ok_deals (T' : RuC K CR) (me : Meth K CR "deals" f) (F : C8.Fun K "deals" "Rules.deals" s_deals f fd) (b : Binds K fd ["self", "count"] []) (B : Blt mg) (M_takes_words : C8.Met P w K mg base 1 CR "takes_words" (spTakes K CR) []) : C8.Met P w K mg base 2 CR "deals" (spDeals K CR) [] :=
  C8.met0 T'.cl me F b sc_deals (fun vs H Q E h => h.1) fun cdv A outer s H vs Q E hr h => by
    have nd := sc_deals.nd
    obtain ⟨_, v, ⟨g, ru, n, rfl, R', rfl⟩, q⟩ := h
    have R0 := R'
    obtain ⟨dx, dK, dO, dL, ap, R⟩ := R'
    refine ⟨_, (pss_one (ps_ret (pe_and (pe_cmpR op_ge (pv 1) (pe_fld (pv 0) rfl) (nomark _)) (pe_one (C8.pe_mt M_takes_words hr (by decide) (pv 0) (pa_cons (pv 1) pa_nil)))))), ?_⟩
    refine ⟨_, rfl, _, rfl, ru, CR, dx, _, _, rfl, R.ob, T'.cl, T'.fewest, rfl, _, _, rfl, rfl, _, rfl, ?_⟩
    have e : dealOk g.pls n = (decide ((arityCount g.pls aOne : Int) ≤ (n : Int)) && takesF g (n : Nat)) := by
      unfold dealOk takesF
      rw [Bool.eq_iff_iff]
      simp only [Bool.and_eq_true, Bool.or_eq_true, decide_eq_true_eq]
      constructor
      · rintro ⟨a, b | b⟩
        · exact ⟨by omega, .inr (by omega)⟩
        · exact ⟨by omega, .inl b⟩
      · rintro ⟨a, b | b⟩
        · exact ⟨by omega, .inr b⟩
        · exact ⟨by omega, .inl (by omega)⟩
    rw [e] at q
    by_cases h : (arityCount g.pls aOne : Int) ≤ (n : Int)
    · rw [decide_eq_true h, Bool.true_and] at q
      rw [decide_eq_true h]
      refine iteT ⟨_, rfl, ru, dx, _, rfl, R.ob, rfl, _, rfl, rfl, _, ⟨g, ru, _, rfl, R0, rfl⟩, fun H1 e1 => q H1 e1⟩
    · rw [decide_eq_false h, Bool.false_and] at q
      rw [decide_eq_false h]
      exact iteF (q H (Ex.refl _))
end
end K9

set_option Elab.async false
set_option maxRecDepth 100000
set_option maxHeartbeats 4000000
namespace K9
open PySem PySem.Spec PyProof.Rows L2 SX Evl KL
section
variable {P : Program} {w : World} {K : PySem.W.Frag} {mg : Str → Option Value} {base : Heap} {f : Addr} {fd : FuncData} {aK aA aV aL CR C : Addr}
abbrev s_give : Stmt := inClass (top 42) 9
theorem sc_give : FnScope ["self", "name", "what", "got"] ["self", "name", "what"] (C8.fnScope s_give) := C8.fnScope_by (by decide +kernel)
theorem ok_give (TR : RuC K CR) (T : RdC K C) (me : Meth K C "give" f) (F : C8.Fun K "give" "Reading.give" s_give f fd) (b : Binds K fd ["self", "name", "what"] []) (B : Blt mg) : C8.Met P w K mg base 1 C "give" (spGive K CR C) [] :=
  C8.met0 T.cl me F b sc_give (fun vs H Q E h => by obtain ⟨_, _, _, _, _, _, _, rfl, _⟩ := h; rfl) fun cdv A outer s H vs Q E hr h => by
    have nd := sc_give.nd
    have hu := hu_of hr
    obtain ⟨g, H0, i, n, x, st, m, rfl, ⟨ps, R⟩, hm, hk, q⟩ := h
    refine ⟨_, (pss_cons (ps_set (i := 3) nd rfl (by first | exact Or.inl rfl | exact Or.inr rfl) (pe_dsetd (pe_fld (pv 0) rfl) (pv 1) (pe_lst pa_nil) ⟨rfl, rfl, rfl, rfl⟩))
      (pss_cons (ps_expr (pe_bm PySem.F.plainAttrs_list PySem.F.slot_list_append PySem.F.type_list_append mt_append (pv 3) (pa_cons (pv 2) pa_nil)))
      (pss_one (ps_if (PW.pt (pw_and (pt_cmpR op_eq (pe_dget hu (pe_fld (pe_fld (pv 0) rfl) rfl) (pv 1) (fun _ _ => rfl)) pe_str (nomark _)) (pw_and1 (pt_cmpR op_gt (pe_callB (id := "len") call_len_seq (by rfl) B.len_ (by decide +kernel) (pa_cons (pv 3) pa_nil)) pe_int (nomark _))))) (pss_one (ps_fld (pv 0) pe_bl rfl)) pss_nil)))), ?_⟩
    -- got = self.got.setdefault(name, [])
    refine ⟨_, rfl, i.me, C, i.dx, _, _, rfl, R.ob, T.cl, T.got, rfl, i.dG, rfl, .inl ⟨_, .inl R.rep.dk⟩, _, rfl, Nat.zero_le _, fun z hz => ?_⟩
    have e1 : Ex H (upd H z (.lst [])) := Ex.new hz
    have kl : ((st.names.zip ps).map fun tp => (kS tp.1, V.ref tp.2)).length < sizeLine := by
      refine sz_lt ?_
      have := R.tm
      rw [List.length_map, List.length_zip]
      omega
    -- behind got.append(what): the test
    have fin : ∀ (p : Addr) (H2 : Hp) (ts' : List (List Nat)) (ps' : List Addr), ts' = (if n ∈ st.names then st.names else st.names ++ [n]) → RdAt K g CR C H0 H2 i ps' { st with names := ts', got := more st.got n x } (m + 1) → H2 p = some (.lst (more st.got n x n)) →
        tIfS (tAnd (tTest (tOp rEq (tDGet (tFld K (tFld K (tVar 0) "rules") "kinds") (tVar 1)) (tC (V.str "once")))) (tTest (tOp (rI0 fun i j => V.bl (decide (j < i))) (tCB (fun xs H Q => ∃ p ys, xs = [V.ref p] ∧ (SqL K H p ys ∨ SqT K H p ys) ∧ Q (V.int ys.length) H) (tCons (tVar 3) tNil)) (tC (V.int 1)))))
          (sFld K (tVar 0) (tC (V.bl true)) "refused") tNext { nx := fun _ H' => Q .non H', rt := Q } [some (.ref i.me), some (ss n), some x, some (.ref p)] H2 := by
      intro p H2 ts' ps' ht R2 hp
      obtain ⟨dxr, dK, dO, dL, ap, RU⟩ := R2.ru
      refine ⟨_, rfl, i.me, C, i.dx, _, _, rfl, R2.ob, T.cl, T.rules, rfl, i.ru, CR, dxr, _, _, rfl, RU.ob, TR.cl, TR.kinds, rfl, _, rfl, dK, _, rfl, .inl ⟨_, kS n, .inl RU.hK, rfl, by rw [kinds_val n, kindOf_some hk]; rfl⟩, rfl, _, rfl, ?_⟩
      rw [lit_once_eq]
      have cl : (more st.got n x n).length = (st.got n).length + 1 := by
        unfold more
        rw [if_pos rfl, List.length_append]
        rfl
      subst ht
      have noRef : (decide (kindOf g n = kOnce) && decide (1 < (st.got n).length + 1)) = false → Q .non H2 := fun e => by
        refine q H2 ⟨ps', ?_⟩
        unfold giveF
        rw [e, Bool.or_false]
        exact R2
      by_cases ho : kindOf g n = kOnce
      · rw [decide_eq_true ho]
        refine iteT ⟨_, rfl, p, _, rfl, .inl (sq_of hp), _, _, rfl, rfl, _, rfl, ?_⟩
        rw [cl]
        by_cases h2 : 1 < (st.got n).length + 1
        · rw [decide_eq_true (show (1 : Int) < (((st.got n).length + 1 : Nat) : Int) by omega)]
          refine iteT ⟨_, rfl, i.me, C, i.dx, _, rfl, R2.ob, T.cl, T.refused, R2.fewer, ?_⟩
          refine q _ ⟨ps', ?_⟩
          have r := R2.store { st with names := _, got := more st.got n x, refused := true } rfl rfl rfl R2.an
          unfold giveF
          rw [decide_eq_true ho, decide_eq_true h2, Bool.and_true, Bool.or_true]
          exact r
        · rw [decide_eq_false (show ¬ (1 : Int) < (((st.got n).length + 1 : Nat) : Int) by omega)]
          exact iteF (noRef (by rw [decide_eq_false h2, Bool.and_false]))
      · rw [decide_eq_false ho]
        exact iteF (noRef (by rw [decide_eq_false ho, Bool.false_and]))
    have lc : (st.got n).length < sizeLine := sz_lt (by have := R.cm n; omega)
    refine ⟨_, kS n, e1 _ _ R.rep.dk, rfl, kl, fun v hv => ?_, fun hn => ?_⟩
    · have ht : n ∈ st.names := by
        by_cases mm : n ∈ st.names
        · exact mm
        · rw [zip_none mm] at hv
          cases hv
      obtain ⟨p, hp, hH, hf, stp⟩ := R.rep.old (x := x) ht
      rw [hp] at hv
      cases hv
      have mp : p ∈ ps := by
        obtain ⟨j, hj, e⟩ := List.mem_iff_getElem.mp ht
        obtain ⟨p', hp', hv'⟩ := zip_at R.rep.len R.rep.nd (show st.names[j]? = some n by rw [← e]; exact List.getElem?_eq_getElem hj)
        rw [hp] at hv'
        cases hv'
        exact List.mem_of_getElem? hp'
      refine ⟨_, rfl, .inl ⟨rfl, _, sq_of (e1 _ _ hH)⟩, _, rfl, p, _, _, rfl, rfl, e1 _ _ hH, lc, ?_⟩
      refine fin p _ st.names ps (by rw [if_pos ht]) (R.gave (stp _ e1) (fun b o hb _ hbp => ?_) R.self_ne.2.2.1 R.np (Nat.le_succ_of_le R.tm)) ?_
      · have hbq : b ≠ p := fun z => hbp (by rw [z]; exact mp)
        rw [upd_ne hbq]
        exact e1 _ _ hb
      · rw [upd_same]
        unfold more
        rw [if_pos rfl]
    · have ht : n ∉ st.names := fun mm => by
        obtain ⟨p, hp, _⟩ := R.rep.old (x := x) mm
        rw [hp] at hn
        cases hn
      obtain ⟨_, nzD, r⟩ := R.rep.new (x := x) ht hz
      have nin : ∀ b o, H b = some o → b ∉ ps → b ∉ ps ++ [z] := fun b o hb hp hm => by
        rcases List.mem_append.mp hm with q | q
        · exact hp q
        · rw [List.mem_singleton.mp q, hz] at hb
          cases hb
      refine ⟨_, rfl, .inl ⟨rfl, _, sq_of (by rw [upd_ne nzD, upd_same])⟩, _, rfl, z, [], _, rfl, rfl, by rw [upd_ne nzD, upd_same], small1000 (by decide), ?_⟩
      refine fin z _ _ _ (by rw [if_neg ht]) (R.gave r (fun b o hb hD hbp => ?_) (nin _ _ R.ob R.self_ne.2.2.1) (nin _ _ R.pL_ R.np) ?_) ?_
      · have hbz : b ≠ z := ne_of_none hb hz
        rw [upd_ne hbz, upd_ne hD, upd_ne hbz]
        exact hb
      · have := R.tm
        rw [List.length_append]
        simp
        omega
      · rw [upd_same]
        unfold more
        rw [if_pos rfl, R.rep.nc n ht]
abbrev s_give_or_await : Stmt := inClass (top 42) 8
theorem sc_give_or_await : FnScope ["self", "name"] ["self", "name"] (C8.fnScope s_give_or_await) := C8.fnScope_by (by decide +kernel)
theorem ok_await (TR : RuC K CR) (T' : RdC K C) (me : Meth K C "give_or_await" f) (F : C8.Fun K "give_or_await" "Reading.give_or_await" s_give_or_await f fd) (b : Binds K fd ["self", "name"] []) (B : Blt mg) (T : CstsV K mg aV aL) (M_give : C8.Met P w K mg base 1 C "give" (spGive K CR C) []) :
    C8.Met P w K mg base 2 C "give_or_await" (spAwait K CR C) [] :=
  C8.met0 T'.cl me F b sc_give_or_await (fun vs H Q E h => by obtain ⟨_, _, _, _, _, _, rfl, _⟩ := h; rfl) fun cdv A outer s H vs Q E hr h => by
    have nd := sc_give_or_await.nd
    have hu := hu_of hr
    obtain ⟨g, H0, i, n, st, m, rfl, ⟨ps, R⟩, hm, hk, q⟩ := h
    refine ⟨_, (pss_one (ps_if (pt_cmpR op_in_seq (pe_dget hu (pe_fld (pe_fld (pv 0) rfl) rfl) (pv 1) (fun _ _ => rfl)) (C8.pe_gc rfl (T.g_LONE)) (by rfl)) (pss_one (ps_expr (C8.pe_mt M_give hr (by decide) (pv 0) (pa_cons (pv 1) (pa_cons pe_int pa_nil))))) (pss_one (ps_fld (pv 0) (pv 1) rfl)))), ?_⟩
    obtain ⟨dxr, dK, dO, dL, ap, RU⟩ := R.ru
    refine ⟨_, rfl, i.me, C, i.dx, _, _, rfl, R.ob, T'.cl, T'.rules, rfl, i.ru, CR, dxr, _, _, rfl, RU.ob, TR.cl, TR.kinds, rfl, _, rfl, dK, _, rfl, .inl ⟨_, kS n, .inl RU.hK, rfl, by rw [kinds_val n, kindOf_some hk]; rfl⟩, aL, _, rfl, .inr (T.t_LONE _), rfl, rfl, _, rfl, ?_⟩
    have e := in_lone (kindOf g n)
    unfold awaitF at q
    show if inV (ss (kindOf g n)) [.str "flag", .str "count", .str "maybe"] = true then _ else _
    rw [e]
    cases hl : lone (kindOf g n) with
    | true =>
      rw [hl] at q
      exact iteT ⟨_, rfl, i.me, i.dx, _, rfl, R.ob, R.met "give", _, rfl, g, H0, i, n, _, st, m, rfl, ⟨ps, R⟩, hm, hk, q⟩
    | false =>
      rw [hl] at q
      refine iteF ⟨_, rfl, _, rfl, i.me, C, i.dx, _, rfl, R.ob, T'.cl, T'.awaited, R.fewer, ?_⟩
      exact q _ ⟨ps, (R.store { st with awaited := some n } rfl rfl rfl fun n' hn => by cases hn; exact hk).le (Nat.le_succ m)⟩
abbrev s_read_place_word : Stmt := inClass (top 42) 4
theorem sc_read_place_word : FnScope ["self", "word"] ["self", "word"] (C8.fnScope s_read_place_word) := C8.fnScope_by (by decide +kernel)
theorem ok_placeW (TR : RuC K CR) (T' : RdC K C) (me : Meth K C "read_place_word" f) (F : C8.Fun K "read_place_word" "Reading.read_place_word" s_read_place_word f fd) (b : Binds K fd ["self", "word"] []) (B : Blt mg) : C8.Met P w K mg base 1 C "read_place_word" (spPlaceW K CR C) [] :=
  C8.met0 T'.cl me F b sc_read_place_word (fun vs H Q E h => by obtain ⟨_, _, _, _, _, _, rfl, _⟩ := h; rfl) fun cdv A outer s H vs Q E hr h => by
    have nd := sc_read_place_word.nd
    obtain ⟨g, H0, i, x, st, m, rfl, ⟨ps, R⟩, hm, q⟩ := h
    refine ⟨_, (pss_cons (ps_expr (pe_bm PySem.F.plainAttrs_list PySem.F.slot_list_append PySem.F.type_list_append mt_append (pe_fld (pv 0) rfl) (pa_cons (pv 1) pa_nil)))
      (pss_one (ps_if (pt_not (pt_val (pe_fld (pe_fld (pv 0) rfl) rfl))) (pss_one (ps_fld (pv 0) pe_bl rfl)) pss_nil))), ?_⟩
    have R2 := R.place x
    refine ⟨_, rfl, i.me, C, i.dx, _, _, rfl, R.ob, T'.cl, T'.placed, rfl, .inl ⟨rfl, _, sq_of R.pL_⟩, _, rfl, i.pL, st.placed, _, rfl, rfl, R.pL_, sz_lt (by have := R.pm; omega), ?_⟩
    obtain ⟨dxr, dK, dO, dL, ap, RU⟩ := R2.ru
    refine ⟨_, rfl, i.me, C, i.dx, _, _, rfl, R2.ob, T'.cl, T'.rules, rfl, i.ru, CR, dxr, _, _, rfl, RU.ob, TR.cl, TR.mixed, rfl, g.mixed, rfl, ?_⟩
    unfold placeF at q
    cases hx : g.mixed with
    | true =>
      rw [hx] at q
      refine iteF (q _ ⟨ps, ?_⟩)
      have e : ({ st with placed := st.placed ++ [x], closed := st.closed || !true } : Rs) = { st with placed := st.placed ++ [x] } := by simp
      rw [e]
      exact R2
    | false =>
      rw [hx] at q
      refine iteT ⟨_, rfl, i.me, C, i.dx, _, rfl, R2.ob, T'.cl, T'.closed, R2.fewer, ?_⟩
      refine q _ ⟨ps, ?_⟩
      have r := R2.store { st with placed := st.placed ++ [x], closed := true } rfl rfl rfl R.an
      have e : ({ st with placed := st.placed ++ [x], closed := st.closed || !false } : Rs) = { st with placed := st.placed ++ [x], closed := true } := by simp
      rw [e]
      exact r
abbrev s_tell : Stmt := inClass (top 42) 5
theorem sc_tell : FnScope ["self", "told", "name"] ["self", "told"] (C8.fnScope s_tell) := C8.fnScope_by (by decide +kernel)
theorem ok_tell (T' : RdC K C) (me : Meth K C "tell" f) (F : C8.Fun K "tell" "Reading.tell" s_tell f fd) (b : Binds K fd ["self", "told"] []) (B : Blt mg) (M_tells : C8.Met P w K mg base 1 CR "tells" (spTells K CR) []) : C8.Met P w K mg base 2 C "tell" (spTell K CR C) [] :=
  C8.met0 T'.cl me F b sc_tell (fun vs H Q E h => by obtain ⟨_, _, _, _, _, _, rfl, _⟩ := h; rfl) fun cdv A outer s H vs Q E hr h => by
    have nd := sc_tell.nd
    obtain ⟨g, H0, i, t, st, m, rfl, ok, lt, ⟨ps, R⟩, q⟩ := h
    refine ⟨_, (pss_cons (ps_set (i := 2) nd rfl (by first | exact Or.inl rfl | exact Or.inr rfl) (C8.pe_mt M_tells hr (by decide) (pe_fld (pv 0) rfl) (pa_cons (pv 1) pa_nil)))
      (pss_cons (ps_if (pt_cmp (pc_isN (pv 2))) (pss_one (ps_fld (pv 0) pe_bl rfl)) (pss_one (ps_if (pt_cmpR op_ne (pv 1) (pv 2) (nomark _)) (pss_one (ps_fld (pv 0) (pv 1) rfl)) pss_nil)))
      (pss_one (ps_ret (pv 2))))), ?_⟩
    have R0 := R.ru
    obtain ⟨dxr, dK, dO, dL, ap, RU⟩ := R.ru
    refine ⟨_, rfl, i.me, C, i.dx, _, _, rfl, R.ob, T'.cl, T'.rules, rfl, i.ru, dxr, _, rfl, RU.ob, rfl, _, rfl, rfl, _, ⟨g, i.ru, t, rfl, R0, ok, lt, rfl⟩, fun H1 e1 => ?_⟩
    have R1 := R.mono e1
    unfold tellS at q
    refine ⟨_, rfl, _, rfl, ?_⟩
    cases ht : tellF g t with
    | none =>
      rw [ht] at q
      refine iteT ⟨_, rfl, i.me, C, i.dx, _, rfl, R1.ob, T'.cl, T'.refused, R1.fewer, ?_⟩
      exact ⟨_, rfl, q _ ⟨ps, R1.store { st with refused := true } rfl rfl rfl R1.an⟩⟩
    | some n =>
      rw [ht] at q
      have q : ∀ H', Rd_ K g CR C H0 H' i (if t = n then st else { st with shortened := some t }) m → Q (aw (some n)) H' := q
      refine iteF ⟨_, rfl, _, rfl, rfl, _, rfl, ?_⟩
      rw [show aw (some n) = ss n from rfl, ss_eq]
      by_cases htn : t = n
      · rw [if_pos htn] at q
        rw [decide_eq_true htn]
        exact iteF ⟨_, rfl, q _ ⟨ps, R1⟩⟩
      · rw [if_neg htn] at q
        rw [decide_eq_false htn]
        refine iteT ⟨_, rfl, _, rfl, i.me, C, i.dx, _, rfl, R1.ob, T'.cl, T'.shortened, R1.fewer, ?_⟩
        exact ⟨_, rfl, q _ ⟨ps, R1.store { st with shortened := some t } rfl rfl rfl R1.an⟩⟩
end
end K9

set_option Elab.async false
set_option maxRecDepth 100000
set_option maxHeartbeats 4000000
namespace K9
open PySem PySem.Spec PyProof.Rows L2 SX Evl KL
section
variable {P : Program} {w : World} {K : PySem.W.Frag} {mg : Str → Option Value} {base : Heap} {f : Addr} {fd : FuncData} {aK aA aV aL CR C : Addr}
abbrev s_read_long : Stmt := inClass (top 42) 6
theorem sc_read_long : FnScope ["self", "word", "told", "equals", "value", "name"] ["self", "word"] (C8.fnScope s_read_long) := C8.fnScope_by (by decide +kernel)
theorem ok_long (TR : RuC K CR) (T' : RdC K C) (me : Meth K C "read_long" f) (F : C8.Fun K "read_long" "Reading.read_long" s_read_long f fd) (b : Binds K fd ["self", "word"] []) (B : Blt mg) (T : CstsV K mg aV aL) (M_tell : C8.Met P w K mg base 2 C "tell" (spTell K CR C) []) (M_give : C8.Met P w K mg base 1 C "give" (spGive K CR C) [])
    (M_give_or_await : C8.Met P w K mg base 2 C "give_or_await" (spAwait K CR C) []) : C8.Met P w K mg base 3 C "read_long" (spLong K CR C) [] :=
  C8.met0 T'.cl me F b sc_read_long (fun vs H Q E h => by obtain ⟨_, _, _, _, _, _, rfl, _⟩ := h; rfl) fun cdv A outer s H vs Q E hr h => by
    have nd := sc_read_long.nd
    have hu := hu_of hr
    obtain ⟨g, H0, i, l, st, m, rfl, ok, l1000, ⟨ps, R⟩, hm, q⟩ := h
    refine ⟨_, (pss_cons (ps_asg (pe_partition (pe_slice C8.sl_txt (pv 1) (po_some pe_int) po_none) pe_str) (pg_tup rfl (pgs_cons (pg_name (i := 2) nd rfl (by first | exact Or.inl rfl | exact Or.inr rfl)) (pgs_cons (pg_name (i := 3) nd rfl (by first | exact Or.inl rfl | exact Or.inr rfl)) (pgs_cons (pg_name (i := 4) nd rfl (by first | exact Or.inl rfl | exact Or.inr rfl)) pgs_nil)))))
      (pss_cons (ps_set (i := 5) nd rfl (by first | exact Or.inl rfl | exact Or.inr rfl) (C8.pe_mt M_tell hr (by decide) (pv 0) (pa_cons (pv 2) pa_nil)))
      (pss_cons (ps_if (pt_cmp (pc_isN (pv 5))) (pss_one ps_retN) pss_nil)
      (pss_one (ps_if (pt_cmpR op_eq (pv 3) pe_str (nomark _)) (pss_one (ps_expr (C8.pe_mt M_give_or_await hr (by decide) (pv 0) (pa_cons (pv 5) pa_nil)))) (pss_one (ps_if (pt_cmpR op_in_seq (pe_dget hu (pe_fld (pe_fld (pv 0) rfl) rfl) (pv 5) (fun _ _ => rfl)) (C8.pe_gc rfl (T.g_VALUELESS)) (by rfl)) (pss_one (ps_fld (pv 0) pe_bl rfl)) (pss_one (ps_expr (C8.pe_mt M_give hr (by decide) (pv 0) (pa_cons (pv 5) (pa_cons (pv 4) pa_nil)))))))))))), ?_⟩
    refine ⟨_, rfl, _, rfl, _, rfl, len1000 l1000, ?_⟩
    rw [slice_from (by decide), show (2 : Int).toNat = 2 from rfl]
    refine ⟨⟨_, rfl⟩, _, _, rfl, rfl, by rw [lit_eq]; rfl, len1000 (by rw [List.length_drop]; omega), fun p hp => ?_⟩
    rw [lit_eq]
    -- told, the rest
    obtain ⟨t, eq, vl, hpart, hcut, tl⟩ : ∃ t eq vl, Txt.partition (S (l.drop 2)) (S [61]) = (S t, S eq, S vl) ∧ ((cutEq (l.drop 2) = (t, none) ∧ eq = []) ∨ (cutEq (l.drop 2) = (t, some vl) ∧ eq = [61])) ∧ t.length ≤ (l.drop 2).length := by
      cases hpar : TL.par [61] [] (l.drop 2) with
      | none => exact ⟨l.drop 2, [], [], partition_none (by simp) hpar, .inl ⟨by unfold cutEq; rw [hpar], rfl⟩, Nat.le_refl _⟩
      | some pq => exact ⟨pq.1, [61], pq.2, partition_some (by simp) hpar, .inr ⟨by unfold cutEq; rw [hpar], rfl⟩, by
          have z := (par_len _ _ _ _ _ (show TL.par [61] [] (l.drop 2) = some (pq.1, pq.2) from hpar)).1
          simpa using z⟩
    rw [hpart]
    rw [List.length_drop] at tl
    have ep : Ex H (upd H p (.tup [ss t, ss eq, ss vl])) := Ex.new hp
    have R1 := R.mono ep
    have c1 : (cutEq (l.drop 2)).1 = t := by rcases hcut with ⟨e, _⟩ | ⟨e, _⟩ <;> rw [e]
    unfold longF at q
    rw [c1] at q
    refine ⟨p, _, rfl, st_of upd_same, rfl, _, _, rfl, _, _, rfl, _, _, rfl, rfl, ?_⟩
    refine ⟨_, rfl, i.me, i.dx, _, rfl, R1.ob, R1.met "tell", _, rfl, g, H0, i, t, st, m, rfl, ok, by omega, ⟨ps, R1⟩, fun H3 R3' => ?_⟩
    obtain ⟨ps3, R3⟩ := R3'
    unfold tellS at R3
    refine ⟨_, rfl, _, rfl, ?_⟩
    cases htell : tellF g t with
    | none =>
      rw [htell] at q R3
      exact iteT (q _ ⟨ps3, R3.le (Nat.le_succ m)⟩)
    | some n =>
      rw [htell] at q R3
      have R3 : RdAt K g CR C H0 H3 i ps3 (if t = n then st else { st with shortened := some t }) m := R3
      have hk := tellF_kind htell
      have q : ∀ H', Rd_ K g CR C H0 H' i (match (cutEq (l.drop 2)).2 with
          | none => awaitF g n (if t = n then st else { st with shortened := some t })
          | some v => if valueless (kindOf g n) then { (if t = n then st else { st with shortened := some t } : Rs) with refused := true } else giveF g n (ss v) (if t = n then st else { st with shortened := some t })) (m + 1) → Q .non H' := q
      generalize (if t = n then st else { st with shortened := some t } : Rs) = st3 at R3 q
      refine iteF ⟨_, rfl, rfl, _, rfl, ?_⟩
      rw [lit_nil, ss_eq]
      rcases hcut with ⟨e, he⟩ | ⟨e, he⟩
      · rw [e] at q
        rw [decide_eq_true he]
        exact iteT ⟨_, rfl, i.me, i.dx, _, rfl, R3.ob, R3.met "give_or_await", _, rfl, g, H0, i, n, _, m, rfl, ⟨ps3, R3⟩, hm, hk, q⟩
      · rw [e] at q
        rw [decide_eq_false (by rw [he]; simp)]
        obtain ⟨dxr, dK, dO, dL, ap, RU⟩ := R3.ru
        refine iteF ⟨_, rfl, i.me, C, i.dx, _, _, rfl, R3.ob, T'.cl, T'.rules, rfl, i.ru, CR, dxr, _, _, rfl, RU.ob, TR.cl, TR.kinds, rfl, _, rfl, dK, _, rfl, .inl ⟨_, kS n, .inl RU.hK, rfl, by rw [kinds_val n, kindOf_some hk]; rfl⟩, aV, _, rfl, .inr (T.t_VALUELESS _), rfl, rfl, _, rfl, ?_⟩
        show if inV (ss (kindOf g n)) [.str "flag", .str "count"] = true then _ else _
        rw [in_valueless]
        cases hv : valueless (kindOf g n) with
        | true =>
          rw [hv] at q
          refine iteT ⟨_, rfl, i.me, C, i.dx, _, rfl, R3.ob, T'.cl, T'.refused, R3.fewer, ?_⟩
          exact q _ ⟨ps3, (R3.store { st3 with refused := true } rfl rfl rfl R3.an).le (Nat.le_succ m)⟩
        | false =>
          rw [hv] at q
          exact iteF ⟨_, rfl, i.me, i.dx, _, rfl, R3.ob, R3.met "give", _, rfl, _, rfl, g, H0, i, n, _, _, m, rfl, ⟨ps3, R3⟩, hm, hk, q⟩
abbrev s_read_letters : Stmt := inClass (top 42) 7
theorem sc_read_letters : FnScope ["self", "word", "at", "name", "rest"] ["self", "word"] (C8.fnScope s_read_letters) := C8.fnScope_by (by decide +kernel)
theorem ok_letters (TR : RuC K CR) (T' : RdC K C) (me : Meth K C "read_letters" f) (F : C8.Fun K "read_letters" "Reading.read_letters" s_read_letters f fd) (b : Binds K fd ["self", "word"] []) (B : Blt mg) (T : CstsV K mg aV aL) (M_give : C8.Met P w K mg base 1 C "give" (spGive K CR C) [])
    (M_give_or_await : C8.Met P w K mg base 2 C "give_or_await" (spAwait K CR C) []) : C8.Met P w K mg base 3 C "read_letters" (spLetters K CR C) [] :=
  C8.met0 T'.cl me F b sc_read_letters (fun vs H Q E h => by obtain ⟨_, _, _, _, _, _, rfl, _⟩ := h; rfl) fun cdv A outer s H vs Q E hr h => by
    have nd := sc_read_letters.nd
    have hu := hu_of hr
    obtain ⟨g, H0, ri, l, st, m, rfl, ok, l1, l100, ⟨ps, R⟩, hm, q⟩ := h
    refine ⟨_, (pss_one (ps_for PassesOwn.never rfl (pi_range2 (by rfl) B.range_ (pa_cons pe_int (pa_cons (pe_callB (id := "len") call_len_str (by rfl) B.len_ (by decide +kernel) (pa_cons (pv 1) pa_nil)) pa_nil))) (pg_name (i := 2) nd rfl (by first | exact Or.inl rfl | exact Or.inr rfl)) (pss_cons (ps_if (pt_cmp (pc_dnotin hu (pe_ix ix_str (pv 1) (pv 2) (fun _ _ => rfl)) (pe_fld (pe_fld (pv 0) rfl) rfl))) (pss_cons (ps_fld (pv 0) pe_bl rfl)
      (pss_one ps_retN)) pss_nil)
      (pss_cons (ps_set (i := 3) nd rfl (by first | exact Or.inl rfl | exact Or.inr rfl) (pe_dget hu (pe_fld (pe_fld (pv 0) rfl) rfl) (pe_ix ix_str (pv 1) (pv 2) (fun _ _ => rfl)) (fun _ _ => rfl)))
      (pss_cons (ps_set (i := 4) nd rfl (by first | exact Or.inl rfl | exact Or.inr rfl) (pe_slice C8.sl_txt (pv 1) (po_some (pe_op op_add (pv 2) pe_int)) po_none))
      (pss_one (ps_if (pt_cmpR op_in_seq (pe_dget hu (pe_fld (pe_fld (pv 0) rfl) rfl) (pv 3) (fun _ _ => rfl)) (C8.pe_gc rfl (T.g_VALUELESS)) (by rfl)) (pss_one (ps_expr (C8.pe_mt M_give hr (by decide) (pv 0) (pa_cons (pv 3) (pa_cons pe_int pa_nil))))) (pss_one (ps_if (pt_cmpR op_eq (pv 4) pe_str (nomark _)) (pss_one (ps_expr (C8.pe_mt M_give_or_await hr (by decide) (pv 0) (pa_cons (pv 3) pa_nil)))) (pss_cons (ps_expr (C8.pe_mt M_give hr (by decide) (pv 0) (pa_cons (pv 3) (pa_cons (pv 4) pa_nil))))
      (pss_one ps_retN))))))))))), ?_⟩
    refine ⟨_, rfl, _, rfl, len1000 (by omega), _, _, rfl, ?_⟩
    have eN : (((S l).length : Int) - 1).toNat = l.length - 1 := by rw [S_len]; omega
    refine ⟨by rw [S_len]; omega, ?_⟩
    rw [eN]
    refine for_it (walk_range (lo := 1) (n := l.length - 1)) (fun i σ H1 => ∃ x y z st1 m1, σ = [some (.ref ri.me), some (ss l), x, y, z] ∧ Rd_ K g CR C H0 H1 ri st1 m1 ∧ m1 ≤ m + i ∧ lettersF g (l.drop (1 + i)) st1 = lettersF g (l.drop 1) st)
      ⟨_, _, _, st, m, rfl, ⟨ps, R⟩, Nat.le_refl _, rfl⟩ (fun _ _ _ _ _ => trivial) ?_ ?_
    · rintro i x σ H1 H2 hi ⟨x0, y0, z0, st1, m1, rfl, ⟨ps, R1⟩, hm1, hgo⟩ ⟨rfl, rfl⟩
      have il : 1 + i < l.length := by omega
      have hc : l[1 + i]? = some l[1 + i] := List.getElem?_eq_getElem il
      generalize l[1 + i] = ch at hc
      have dr : l.drop (1 + i) = ch :: l.drop (1 + (i + 1)) := by
        rw [List.drop_eq_getElem_cons il]
        congr 1
        rw [List.getElem?_eq_getElem il] at hc
        exact Option.some.inj hc
      have at1 : atI (S l).cps.toList (1 + (i : Nat) : Int) = some ch := by
        have h1 := atI_nat (xs := (S l).cps.toList) (j := 1 + i) (v := ch) (by simpa [S] using hc)
        rwa [show ((1 + i : Nat) : Int) = 1 + (i : Nat) by omega] at h1
      obtain ⟨dxr, dK, dO, dL, ap, RU⟩ := R1.ru
      rw [dr] at hgo
      refine ⟨_, rfl, _, rfl, _, _, ch, rfl, rfl, len1000 (by omega), at1, _, rfl, ri.me, C, ri.dx, _, _, rfl, R1.ob, T'.cl, T'.rules, rfl, ri.ru, CR, dxr, _, _, rfl, RU.ob, TR.cl, TR.letters, rfl, dL, _, rfl, .inl ⟨_, kS [ch], .inl RU.hL, rfl, rfl⟩, _, rfl, ?_⟩
      rw [letters_val [ch]]
      cases hlet : letterF g [ch] with
      | none =>
        rw [lettersF_none hlet] at hgo
        refine iteT ⟨_, rfl, ri.me, C, ri.dx, _, rfl, R1.ob, T'.cl, T'.refused, R1.fewer, ?_⟩
        refine q _ ?_
        rw [← hgo]
        exact ⟨ps, (R1.store { st1 with refused := true } rfl rfl rfl R1.an).le (by omega)⟩
      | some n =>
        rw [lettersF_some hlet] at hgo
        have hk := letterF_kind hlet
        refine iteF ⟨_, rfl, ri.me, C, ri.dx, _, _, rfl, R1.ob, T'.cl, T'.rules, rfl, ri.ru, CR, dxr, _, _, rfl, RU.ob, TR.cl, TR.letters, rfl, _, rfl, _, rfl, _, _, ch, rfl, rfl, len1000 (by omega), at1, dL, _, rfl, .inl ⟨_, kS [ch], .inl RU.hL, rfl, by rw [letters_val [ch], hlet]; rfl⟩, ?_⟩
        refine ⟨_, rfl, _, rfl, _, _, rfl, rfl, _, rfl, _, rfl, len1000 (by omega), ?_⟩
        have e2 : ((1 : Int) + (i : Nat) + 1).toNat = 1 + (i + 1) := by omega
        rw [slice_from (by omega), e2]
        refine ⟨_, rfl, ri.me, C, ri.dx, _, _, rfl, R1.ob, T'.cl, T'.rules, rfl, ri.ru, CR, dxr, _, _, rfl, RU.ob, TR.cl, TR.kinds, rfl, _, rfl, dK, _, rfl, .inl ⟨_, kS n, .inl RU.hK, rfl, by rw [kinds_val n, kindOf_some hk]; rfl⟩, aV, _, rfl, .inr (T.t_VALUELESS _), rfl, rfl, _, rfl, ?_⟩
        show if inV (ss (kindOf g n)) [.str "flag", .str "count"] = true then _ else _
        rw [in_valueless]
        have RR : Rd_ K g CR C H0 H2 ri st1 m1 := ⟨ps, R1⟩
        have hgo : (if valueless (kindOf g n) then lettersF g (l.drop (1 + (i + 1))) (giveF g n (.int 1) st1) else if l.drop (1 + (i + 1)) = [] then awaitF g n st1 else giveF g n (ss (l.drop (1 + (i + 1)))) st1) = lettersF g (l.drop 1) st := hgo
        cases hv : valueless (kindOf g n) with
        | true =>
          rw [hv] at hgo
          refine iteT ⟨_, rfl, ri.me, ri.dx, _, rfl, R1.ob, R1.met "give", _, rfl, g, H0, ri, n, _, st1, m1, rfl, RR, by omega, hk, fun H3 R3 => ?_⟩
          exact ⟨_, _, _, _, m1 + 1, rfl, R3, by omega, hgo⟩
        | false =>
          rw [hv] at hgo
          have hgo : (if l.drop (1 + (i + 1)) = [] then awaitF g n st1 else giveF g n (ss (l.drop (1 + (i + 1)))) st1) = lettersF g (l.drop 1) st := hgo
          refine iteF ⟨_, rfl, rfl, _, rfl, ?_⟩
          rw [lit_nil, ss_eq]
          by_cases hz : l.drop (1 + (i + 1)) = []
          · rw [if_pos hz] at hgo
            rw [decide_eq_true hz]
            refine iteT ⟨_, rfl, ri.me, ri.dx, _, rfl, R1.ob, R1.met "give_or_await", _, rfl, g, H0, ri, n, st1, m1, rfl, RR, by omega, hk, fun H3 R3 => ?_⟩
            exact ⟨_, _, _, _, m1 + 1, rfl, R3, by omega, by rw [hz]; exact hgo⟩
          · rw [if_neg hz] at hgo
            rw [decide_eq_false hz]
            refine iteF ⟨_, rfl, ri.me, ri.dx, _, rfl, R1.ob, R1.met "give", _, rfl, _, rfl, g, H0, ri, n, _, st1, m1, rfl, RR, by omega, hk, fun H3 R3 => ?_⟩
            refine q _ ?_
            rw [← hgo]
            exact R3.le (by omega)
    · rintro σ H1 ⟨x0, y0, z0, st1, m1, rfl, R1, hm1, hgo⟩
      have dz : l.drop (1 + (l.length - 1)) = [] := List.drop_eq_nil_of_le (by omega)
      rw [dz] at hgo
      have hgo : st1 = lettersF g (l.drop 1) st := hgo
      refine q _ ?_
      rw [← hgo]
      exact R1.le (by omega)
end
end K9

set_option Elab.async false
set_option maxRecDepth 100000
set_option maxHeartbeats 4000000
namespace K9
open PySem PySem.Spec PyProof.Rows L2 SX Evl KL
section
variable {P : Program} {w : World} {K : PySem.W.Frag} {mg : Str → Option Value} {base : Heap} {f : Addr} {fd : FuncData} {aK aA aV aL CR C : Addr}
abbrev s_read_word : Stmt := inClass (top 42) 3
theorem sc_read_word : FnScope ["self", "word", "name"] ["self", "word"] (C8.fnScope s_read_word) := C8.fnScope_by (by decide +kernel)
theorem ok_wordM (TR : RuC K CR) (T' : RdC K C) (me : Meth K C "read_word" f) (F : C8.Fun K "read_word" "Reading.read_word" s_read_word f fd) (b : Binds K fd ["self", "word"] []) (B : Blt mg) (C_is_dashed : C8.Cal P w K mg base 1 "is_dashed" spDashed []) (C_is_number : C8.Cal P w K mg base 2 "is_number" spNumber [])
    (M_give : C8.Met P w K mg base 1 C "give" (spGive K CR C) []) (M_read_place_word : C8.Met P w K mg base 1 C "read_place_word" (spPlaceW K CR C) []) (M_read_long : C8.Met P w K mg base 3 C "read_long" (spLong K CR C) []) (M_read_letters : C8.Met P w K mg base 3 C "read_letters" (spLetters K CR C) []) :
    C8.Met P w K mg base 4 C "read_word" (spWordM K CR C) [] :=
  C8.met0 T'.cl me F b sc_read_word (fun vs H Q E h => by obtain ⟨_, _, _, _, _, _, rfl, _⟩ := h; rfl) fun cdv A outer s H vs Q E hr h => by
    have nd := sc_read_word.nd
    have hu := hu_of hr
    obtain ⟨g, H0, i, l, st, m, rfl, ok, l100, ⟨ps, R⟩, hm, q⟩ := h
    refine ⟨_, (pss_one (ps_if (pt_cmp (pc_notN (pe_fld (pv 0) rfl))) (pss_cons (ps_set (i := 2) nd rfl (by first | exact Or.inl rfl | exact Or.inr rfl) (pe_fld (pv 0) rfl))
      (pss_cons (ps_fld (pv 0) pe_non rfl)
      (pss_one (ps_expr (C8.pe_mt M_give hr (by decide) (pv 0) (pa_cons (pv 2) (pa_cons (pv 1) pa_nil))))))) (pss_one (ps_if (pt_val (pe_fld (pv 0) rfl)) (pss_one (ps_expr (pe_bm PySem.F.plainAttrs_list PySem.F.slot_list_append PySem.F.type_list_append mt_append (pe_fld (pv 0) rfl) (pa_cons (pv 1) pa_nil)))) (pss_one (ps_if (pt_not (pt_val (C8.pe_c C_is_dashed hr (by decide) rfl (pa_cons (pv 1) pa_nil)))) (pss_one (ps_expr (C8.pe_mt M_read_place_word hr (by decide) (pv 0) (pa_cons (pv 1) pa_nil)))) (pss_one (ps_if (pt_cmpR op_eq (pv 1) pe_str (nomark _)) (pss_one (ps_fld (pv 0) pe_bl rfl)) (pss_one (ps_if (pt_val (pe_m1 PySem.F.slot_str_startswith PySem.F.type_str_startswith mt_startswith (pv 1) pe_str)) (pss_one (ps_expr (C8.pe_mt M_read_long hr (by decide) (pv 0) (pa_cons (pv 1) pa_nil)))) (pss_one (ps_if (PW.pt (pw_and (pt_val (pe_fld (pe_fld (pv 0) rfl) rfl)) (pw_and1 (pt_val (C8.pe_c C_is_number hr (by decide) rfl (pa_cons (pv 1) pa_nil)))))) (pss_cons (ps_fld (pv 0) pe_bl rfl)
      (pss_one (ps_expr (C8.pe_mt M_read_place_word hr (by decide) (pv 0) (pa_cons (pv 1) pa_nil))))) (pss_one (ps_expr (C8.pe_mt M_read_letters hr (by decide) (pv 0) (pa_cons (pv 1) pa_nil)))))))))))))))), ?_⟩
    have up : ∀ {H' : Hp} {st' : Rs}, Rd_ K g CR C H0 H' i st' (m + 1) → Rd_ K g CR C H0 H' i st' (m + l.length + 1) := fun R => R.le (by omega)
    refine ⟨_, rfl, i.me, C, i.dx, _, _, rfl, R.ob, T'.cl, T'.awaited, rfl, _, rfl, ?_⟩
    cases haw : st.awaited with
    | some n =>
      rw [wordF_some haw] at q
      have hk := R.an n haw
      refine iteT ⟨_, rfl, i.me, C, i.dx, _, _, rfl, R.ob, T'.cl, T'.awaited, rfl, ?_⟩
      rw [haw]
      have R2 := R.store { st with awaited := none } rfl rfl rfl (fun _ z => nomatch z)
      refine ⟨_, rfl, i.me, C, i.dx, _, rfl, R.ob, T'.cl, T'.awaited, R.fewer, ?_⟩
      refine ⟨_, rfl, i.me, i.dx, _, rfl, R2.ob, R2.met "give", _, rfl, _, rfl, g, H0, i, n, _, _, m, rfl, ⟨ps, R2⟩, by omega, hk, fun H3 R3 => q _ (up R3)⟩
    | none =>
      rw [wordF_none haw] at q
      refine iteF ⟨_, rfl, i.me, C, i.dx, _, _, rfl, R.ob, T'.cl, T'.closed, rfl, _, rfl, ?_⟩
      have RR : Rd_ K g CR C H0 H i st m := ⟨ps, R⟩
      cases hc : st.closed with
      | true =>
        rw [if_pos hc] at q
        refine iteT ⟨_, rfl, i.me, C, i.dx, _, _, rfl, R.ob, T'.cl, T'.placed, rfl, .inl ⟨rfl, _, sq_of R.pL_⟩, _, rfl, i.pL, st.placed, _, rfl, rfl, R.pL_, sz_lt (by have := R.pm; omega), ?_⟩
        exact q _ (up ⟨ps, R.place _⟩)
      | false =>
        rw [if_neg (by rw [hc]; exact Bool.false_ne_true)] at q
        refine iteF ⟨_, rfl, rfl, _, ⟨l, rfl, by omega, rfl⟩, fun H1 e1 => ⟨_, rfl, ?_⟩⟩
        have R1 := R.mono e1
        have RR1 : Rd_ K g CR C H0 H1 i st m := ⟨ps, R1⟩
        cases hd : dashed l with
        | false =>
          rw [if_pos (by rw [hd]; rfl)] at q
          exact iteT ⟨_, rfl, i.me, i.dx, _, rfl, R1.ob, R1.met "read_place_word", _, rfl, g, H0, i, _, st, m, rfl, RR1, by omega, fun H3 R3 => q _ (up R3)⟩
        | true =>
          rw [if_neg (by rw [hd]; exact Bool.false_ne_true)] at q
          refine iteF ⟨_, rfl, rfl, _, rfl, ?_⟩
          rw [lit_dd, ss_eq]
          by_cases h2 : l = [45, 45]
          · rw [if_pos h2] at q
            rw [decide_eq_true h2]
            refine iteT ⟨_, rfl, i.me, C, i.dx, _, rfl, R1.ob, T'.cl, T'.closed, R1.fewer, ?_⟩
            exact q _ ⟨ps, (R1.store { st with closed := true } rfl rfl rfl R1.an).le (by omega)⟩
          · rw [if_neg h2] at q
            rw [decide_eq_false h2]
            refine iteF ⟨_, rfl, ⟨_, rfl⟩, _, _, rfl, rfl, _, rfl, ?_⟩
            rw [st_S, show ([45, 45] : List Nat).length = 2 from rfl]
            by_cases h3 : l.take 2 = [45, 45]
            · rw [if_pos h3] at q
              rw [decide_eq_true h3]
              exact iteT ⟨_, rfl, i.me, i.dx, _, rfl, R1.ob, R1.met "read_long", _, rfl, g, H0, i, l, st, m, rfl, ok, by omega, RR1, by omega, fun H3 R3 => q _ (up R3)⟩
            · rw [if_neg h3] at q
              rw [decide_eq_false h3]
              have l1 : 1 ≤ l.length := by
                cases l with
                | nil => exact absurd hd (by decide)
                | cons a r => simp
              have goL : ∀ H2, Ex H1 H2 → (readsNum g && number l) = false → tDrop (tMeth C "read_letters" (spLetters K CR C) [] C8.E0 (tVar 0) (tCons (tVar 1) tNil)) { nx := fun _ H' => Q .non H', rt := Q } [some (.ref i.me), some (ss l), none] H2 := by
                intro H2 e2 hn
                rw [if_neg (by rw [hn]; exact Bool.false_ne_true)] at q
                have R2 := R1.mono e2
                exact ⟨_, rfl, i.me, i.dx, _, rfl, R2.ob, R2.met "read_letters", _, rfl, g, H0, i, l, st, m, rfl, ok, l1, l100, ⟨ps, R2⟩, hm, fun H3 R3 => q _ (R3.le (by omega))⟩
              obtain ⟨dxr, dK, dO, dL, ap, RU⟩ := R1.ru
              refine iteF ⟨_, rfl, i.me, C, i.dx, _, _, rfl, R1.ob, T'.cl, T'.rules, rfl, i.ru, CR, dxr, _, _, rfl, RU.ob, TR.cl, TR.minus, rfl, _, rfl, ?_⟩
              cases hmn : readsNum g with
              | false => exact iteF (iteF (goL H1 (Ex.refl _) (by rw [hmn]; rfl)))
              | true =>
                refine iteT ⟨_, rfl, rfl, _, ⟨l, rfl, by omega, rfl⟩, fun H2 e2 => ⟨_, rfl, ?_⟩⟩
                cases hnum : number l with
                | false => exact iteF (goL H2 e2 (by rw [hnum, Bool.and_false]))
                | true =>
                  rw [if_pos (by rw [hmn, hnum]; rfl)] at q
                  have R2 := R1.mono e2
                  have R3 := R2.store { st with numbered := true } rfl rfl rfl R2.an
                  refine iteT ⟨_, rfl, i.me, C, i.dx, _, rfl, R2.ob, T'.cl, T'.numbered, R2.fewer, ?_⟩
                  exact ⟨_, rfl, i.me, i.dx, _, rfl, R3.ob, R3.met "read_place_word", _, rfl, g, H0, i, _, _, m, rfl, ⟨ps, R3⟩, by omega, fun H4 R4 => q _ (up R4)⟩
end
end K9

set_option Elab.async false
set_option maxRecDepth 100000
set_option maxHeartbeats 4000000
namespace K9
open PySem PySem.Spec PyProof.Rows L2 SX Evl KL
section
variable {P : Program} {w : World} {K : PySem.W.Frag} {mg : Str → Option Value} {base : Heap} {f : Addr} {fd : FuncData} {aK aA aV aL CR C : Addr}
abbrev s_initU : Stmt := inClass (top 38) 0
theorem sc_initU : FnScope ["self", "grammar", "options", "places", "modes", "name", "_", "kind", "letter"] ["self", "grammar"] (C8.fnScope s_initU) := C8.fnScope_by (by decide +kernel)
theorem ok_initU (T' : RuC K CR) (M : Mk K CR f) (hC : mg "Rules" = some (.ref CR)) (F : C8.Fun K "__init__" "Rules.__init__" s_initU f fd) (b : Binds K fd ["self", "grammar"] []) (B : Blt mg) (C_reads_numbers : C8.Cal P w K mg base 1 "reads_numbers" (spReadsNum K) []) (C_span : C8.Cal P w K mg base 2 "span" (spSpan K) []) :
    C8.Mak P w K mg base 3 "Rules" CR (spInitU K CR) [] :=
  C8.mak0 M hC F b .nil sc_initU (fun vs H Q E h => by obtain ⟨_, _, _, _, _, rfl, _⟩ := h; rfl) fun cdv A outer s H vs Q E hr h => by
    have nd := sc_initU.nd
    have hu := hu_of hr
    obtain ⟨g, H0, me, dx, a, rfl, hme, e0, n0, ha, ok, q⟩ := h
    obtain ⟨ao, ap, am, h1, ⟨as, hs, hp⟩, h3, h4⟩ := ha.ex
    have ln : as.length = g.opts.length := hp.length
    have l24 := ok.ol
    have few : ∀ n : Nat, n ≤ 12 → n < 1000 := fun n h => by omega
    refine ⟨_, (pss_cons (ps_asg (pv 1) (pg_tup rfl (pgs_cons (pg_name (i := 2) nd rfl (by first | exact Or.inl rfl | exact Or.inr rfl)) (pgs_cons (pg_name (i := 3) nd rfl (by first | exact Or.inl rfl | exact Or.inr rfl)) (pgs_cons (pg_name (i := 4) nd rfl (by first | exact Or.inl rfl | exact Or.inr rfl)) pgs_nil)))))
      (pss_cons (ps_fld (pv 0) (pe_dc (own := [("name", 5), ("_", 6), ("kind", 7)]) (g := gTup K 3 (gCons (gName 5) (gCons (gName 6) (gCons (gName 7) gNil)))) rfl nd (pi_tup (pv 2)) (blkOk_by (N := ["self", "grammar", "options", "places", "modes", "name", "_", "kind", "letter"]) (sc := C8.fnScope s_initU) (by decide +kernel)) (fun _ _ _ _ _ => (by exact (pg_tup rfl (pgs_cons (pg_name (i := 5) nd rfl (by first | exact Or.inl rfl | exact Or.inr rfl)) (pgs_cons (pg_name (i := 6) nd rfl (by first | exact Or.inl rfl | exact Or.inr rfl)) (pgs_cons (pg_name (i := 7) nd rfl (by first | exact Or.inl rfl | exact Or.inr rfl)) pgs_nil)))))) (fun _ _ _ _ _ => pts_nil) (fun _ _ _ _ _ => (pv 5)) (fun _ _ _ _ _ => (pv 7))) rfl)
      (pss_cons (ps_fld (pv 0) (pe_dc (own := [("name", 5), ("letter", 8), ("_", 6)]) (g := gTup K 3 (gCons (gName 5) (gCons (gName 8) (gCons (gName 6) gNil)))) rfl nd (pi_tup (pv 2)) (blkOk_by (N := ["self", "grammar", "options", "places", "modes", "name", "_", "kind", "letter"]) (sc := C8.fnScope s_initU) (by decide +kernel)) (fun _ _ _ _ _ => (by exact (pg_tup rfl (pgs_cons (pg_name (i := 5) nd rfl (by first | exact Or.inl rfl | exact Or.inr rfl)) (pgs_cons (pg_name (i := 8) nd rfl (by first | exact Or.inl rfl | exact Or.inr rfl)) (pgs_cons (pg_name (i := 6) nd rfl (by first | exact Or.inl rfl | exact Or.inr rfl)) pgs_nil)))))) (fun _ _ _ _ _ => pts_nil) (fun _ _ _ _ _ => (pv 5)) (fun _ _ _ _ _ => (pv 8))) rfl)
      (pss_cons (ps_fld (pv 0) (pe_dc (own := [("name", 5), ("letter", 8), ("_", 6)]) (g := gTup K 3 (gCons (gName 5) (gCons (gName 8) (gCons (gName 6) gNil)))) rfl nd (pi_tup (pv 2)) (blkOk_by (N := ["self", "grammar", "options", "places", "modes", "name", "_", "kind", "letter"]) (sc := C8.fnScope s_initU) (by decide +kernel)) (fun _ _ _ _ _ => (by exact (pg_tup rfl (pgs_cons (pg_name (i := 5) nd rfl (by first | exact Or.inl rfl | exact Or.inr rfl)) (pgs_cons (pg_name (i := 8) nd rfl (by first | exact Or.inl rfl | exact Or.inr rfl)) (pgs_cons (pg_name (i := 6) nd rfl (by first | exact Or.inl rfl | exact Or.inr rfl)) pgs_nil)))))) (fun _ _ _ _ _ => (pts_one (pt_cmpR op_ne (pv 8) pe_str (nomark _)))) (fun _ _ _ _ _ => (pv 8)) (fun _ _ _ _ _ => (pv 5))) rfl)
      (pss_cons (ps_fld (pv 0) (pv 3) rfl)
      (pss_cons (ps_fld (pv 0) (pe_ix ix_tup (pv 4) pe_int (fun _ _ => rfl)) rfl)
      (pss_cons (ps_fld (pv 0) (pe_ix ix_tup (pv 4) pe_int (fun _ _ => rfl)) rfl)
      (pss_cons (ps_fld (pv 0) (C8.pe_c C_reads_numbers hr (by decide) rfl (pa_cons (pv 1) pa_nil)) rfl)
      (pss_one (ps_asg (C8.pe_c C_span hr (by decide) rfl (pa_cons (pv 3) pa_nil)) (pg_tup rfl (pgs_cons (L2.pg_fld (pv 0)) (pgs_cons (L2.pg_fld (pv 0)) pgs_nil))))))))))))), ?_⟩
    refine ⟨_, rfl, a, _, rfl, ex_t e0 h1, rfl, _, _, rfl, _, _, rfl, _, _, rfl, rfl, ?_⟩
    have m1 : ∀ {H : Hp} {d : Addr} {fs : List (Str × V)}, H me = some (.ins CR dx fs) → H d = none → d ≠ me := fun h h' z => by rw [z, h] at h'; cases h'
    -- self.kinds
    refine ⟨_, rfl, ao, rfl, ⟨_, ex_t e0 hs⟩, fun D1 n1 => ?_⟩
    have D1me : D1 ≠ me := m1 hme n1
    refine dc_ys (L2.walk_tup (K := K) (a := ao) (xs := as.map V.ref)) g.opts (by rw [List.length_map, ln]) (by rw [List.length_map]; omega) (fun _ => true) (fun o => kS o.name) (fun o => ss o.kind) n1 (fun H2 e2 => ex_t (e0.trans e2) hs) ?_ ?_
    · rintro i o x Hx Hy hi e2 ⟨rfl, hx⟩ Z N hz hn
      obtain ⟨a1, rfl, oa⟩ := OptsAt.get hp hi hx
      refine ⟨a1, _, rfl, ex_t (e0.trans e2) oa, rfl, _, _, rfl, _, _, rfl, _, _, rfl, rfl, rfl, ?_⟩
      refine iteT (B := N Hy) ?_
      exact ⟨_, rfl, _, rfl, hz Hy (Ex.refl _) rfl⟩
    intro H1' e1' k1'
    rw [flt_all, fold_map0 (fun o : Opt => o.name) (fun o => ss o.kind) g.opts ok.on] at k1'
    refine ⟨_, rfl, me, CR, dx, _, rfl, e1' _ _ hme, T'.cl, T'.kinds, few _ (by decide), ?_⟩
    generalize hH1 : upd H1' me (.ins CR dx (putF "kinds" (.ref D1) [])) = H1
    have b1 : ExB me H H1 := by rw [← hH1]; exact (ExB.of e1').trans .put
    have o1 : H1 me = some (.ins CR dx [("kinds", .ref D1)]) := by rw [← hH1]; exact upd_same
    have k1 : H1 D1 = some (.dK (kindsK g)) := by rw [← hH1, upd_ne D1me]; exact k1'
    have x1 : Ex H0 H1 := b1.ex e0 n0
    -- self.own_letters
    refine ⟨_, rfl, ao, rfl, ⟨_, ex_t x1 hs⟩, fun D2 n2 => ?_⟩
    have D2me : D2 ≠ me := m1 o1 n2
    refine dc_ys (L2.walk_tup (K := K) (a := ao) (xs := as.map V.ref)) g.opts (by rw [List.length_map, ln]) (by rw [List.length_map]; omega) (fun _ => true) (fun o => kS o.name) (fun o => ss o.letter) n2 (fun H2 e2 => ex_t (x1.trans e2) hs) ?_ ?_
    · rintro i o x Hx Hy hi e2 ⟨rfl, hx⟩ Z N hz hn
      obtain ⟨a1, rfl, oa⟩ := OptsAt.get hp hi hx
      refine ⟨a1, _, rfl, ex_t (x1.trans e2) oa, rfl, _, _, rfl, _, _, rfl, _, _, rfl, rfl, rfl, ?_⟩
      refine iteT (B := N Hy) ?_
      exact ⟨_, rfl, _, rfl, hz Hy (Ex.refl _) rfl⟩
    intro H2' e2' k2'
    rw [flt_all, fold_map0 (fun o : Opt => o.name) (fun o => ss o.letter) g.opts ok.on] at k2'
    refine ⟨_, rfl, me, CR, dx, _, rfl, e2' _ _ o1, T'.cl, T'.own_letters, few _ (by show 1 ≤ 12; decide), ?_⟩
    generalize hH2 : upd H2' me (.ins CR dx (putF "own_letters" (.ref D2) [("kinds", .ref D1)])) = H2
    have b2 : ExB me H1 H2 := by rw [← hH2]; exact (ExB.of e2').trans .put
    have o2 : H2 me = some (.ins CR dx [("kinds", .ref D1), ("own_letters", .ref D2)]) := by rw [← hH2]; exact upd_same
    have k2 : H2 D2 = some (.dK (ownK g)) := by rw [← hH2, upd_ne D2me]; exact k2'
    have x2 : Ex H0 H2 := (b1.trans b2).ex e0 n0
    -- self.letters
    refine ⟨_, rfl, ao, rfl, ⟨_, ex_t x2 hs⟩, fun D3 n3 => ?_⟩
    have D3me : D3 ≠ me := m1 o2 n3
    refine dc_ys (L2.walk_tup (K := K) (a := ao) (xs := as.map V.ref)) g.opts (by rw [List.length_map, ln]) (by rw [List.length_map]; omega) (fun o => decide (o.letter ≠ [])) (fun o => kS o.letter) (fun o => ss o.name) n3 (fun H3 e3 => ex_t (x2.trans e3) hs) ?_ ?_
    · rintro i o x Hx Hy hi e3 ⟨rfl, hx⟩ Z N hz hn
      obtain ⟨a1, rfl, oa⟩ := OptsAt.get hp hi hx
      refine ⟨a1, _, rfl, ex_t (x2.trans e3) oa, rfl, _, _, rfl, _, _, rfl, _, _, rfl, rfl, rfl, ?_⟩
      refine ⟨_, rfl, rfl, _, rfl, ?_⟩
      rw [lit_nil, ss_eq]
      by_cases hl : o.letter = []
      · rw [decide_eq_true hl]
        exact iteF (hn Hy (Ex.refl _) (by simp [hl]))
      · rw [decide_eq_false hl]
        exact iteT ⟨_, rfl, _, rfl, hz Hy (Ex.refl _) (by simp [hl])⟩
    intro H3' e3' k3'
    have nz : ((g.opts.filter fun o => decide (o.letter ≠ [])).map (·.letter)).Nodup := by
      have h := ok.oz
      rw [List.filter_map] at h
      exact h
    rw [fold_map0 (fun o : Opt => o.letter) (fun o => ss o.name) _ nz] at k3'
    refine ⟨_, rfl, me, CR, dx, _, rfl, e3' _ _ o2, T'.cl, T'.letters, few _ (by show 2 ≤ 12; decide), ?_⟩
    generalize hH3 : upd H3' me (.ins CR dx (putF "letters" (.ref D3) [("kinds", .ref D1), ("own_letters", .ref D2)])) = H3
    have b3 : ExB me H2 H3 := by rw [← hH3]; exact (ExB.of e3').trans .put
    have o3 : H3 me = some (.ins CR dx [("kinds", .ref D1), ("own_letters", .ref D2), ("letters", .ref D3)]) := by rw [← hH3]; exact upd_same
    have k3 : H3 D3 = some (.dK (lettersK g)) := by rw [← hH3, upd_ne D3me]; exact k3'
    -- self.places, self.short, self.mixed
    refine ⟨_, rfl, _, rfl, me, CR, dx, _, rfl, o3, T'.cl, T'.places, few _ (by show 3 ≤ 12; decide), ?_⟩
    have o4 : upd H3 me (.ins CR dx (putF "places" (.ref ap) [("kinds", .ref D1), ("own_letters", .ref D2), ("letters", .ref D3)])) me = some (.ins CR dx [("kinds", .ref D1), ("own_letters", .ref D2), ("letters", .ref D3), ("places", .ref ap)]) := upd_same
    have b4 : ExB me H3 (upd H3 me (.ins CR dx (putF "places" (.ref ap) [("kinds", .ref D1), ("own_letters", .ref D2), ("letters", .ref D3)]))) := .put
    generalize upd H3 me (.ins CR dx (putF "places" (.ref ap) [("kinds", .ref D1), ("own_letters", .ref D2), ("letters", .ref D3)])) = H4 at o4 b4
    have x4 : Ex H0 H4 := (((b1.trans b2).trans b3).trans b4).ex e0 n0
    refine ⟨_, rfl, am, _, 0, _, rfl, rfl, ex_t x4 h4, atI_nat (j := 0) rfl, _, rfl, me, CR, dx, _, rfl, o4, T'.cl, T'.short, few _ (by show 4 ≤ 12; decide), ?_⟩
    have o5 : upd H4 me (.ins CR dx (putF "short" (.bl g.short) [("kinds", .ref D1), ("own_letters", .ref D2), ("letters", .ref D3), ("places", .ref ap)])) me = some (.ins CR dx [("kinds", .ref D1), ("own_letters", .ref D2), ("letters", .ref D3), ("places", .ref ap), ("short", .bl g.short)]) := upd_same
    have b5 : ExB me H4 (upd H4 me (.ins CR dx (putF "short" (.bl g.short) [("kinds", .ref D1), ("own_letters", .ref D2), ("letters", .ref D3), ("places", .ref ap)]))) := .put
    generalize upd H4 me (.ins CR dx (putF "short" (.bl g.short) [("kinds", .ref D1), ("own_letters", .ref D2), ("letters", .ref D3), ("places", .ref ap)])) = H5 at o5 b5
    have x5 : Ex H0 H5 := ((((b1.trans b2).trans b3).trans b4).trans b5).ex e0 n0
    refine ⟨_, rfl, am, _, 1, _, rfl, rfl, ex_t x5 h4, atI_nat (j := 1) rfl, _, rfl, me, CR, dx, _, rfl, o5, T'.cl, T'.mixed, few _ (by show 5 ≤ 12; decide), ?_⟩
    have o6 : upd H5 me (.ins CR dx (putF "mixed" (.bl g.mixed) [("kinds", .ref D1), ("own_letters", .ref D2), ("letters", .ref D3), ("places", .ref ap), ("short", .bl g.short)])) me = some (.ins CR dx [("kinds", .ref D1), ("own_letters", .ref D2), ("letters", .ref D3), ("places", .ref ap), ("short", .bl g.short), ("mixed", .bl g.mixed)]) := upd_same
    have b6 : ExB me H5 (upd H5 me (.ins CR dx (putF "mixed" (.bl g.mixed) [("kinds", .ref D1), ("own_letters", .ref D2), ("letters", .ref D3), ("places", .ref ap), ("short", .bl g.short)]))) := .put
    generalize upd H5 me (.ins CR dx (putF "mixed" (.bl g.mixed) [("kinds", .ref D1), ("own_letters", .ref D2), ("letters", .ref D3), ("places", .ref ap), ("short", .bl g.short)])) = H6 at o6 b6
    have x6 : Ex H0 H6 := (((((b1.trans b2).trans b3).trans b4).trans b5).trans b6).ex e0 n0
    -- self.minus
    refine ⟨_, rfl, rfl, _, ⟨a, g, rfl, ha.mono x6, ok, rfl⟩, fun H7' e7 => ?_⟩
    have o6' := e7 _ _ o6
    refine ⟨_, rfl, me, CR, dx, _, rfl, o6', T'.cl, T'.minus, few _ (by show 6 ≤ 12; decide), ?_⟩
    have o7 : upd H7' me (.ins CR dx (putF "minus" (.bl (readsNum g)) [("kinds", .ref D1), ("own_letters", .ref D2), ("letters", .ref D3), ("places", .ref ap), ("short", .bl g.short), ("mixed", .bl g.mixed)])) me = some (.ins CR dx [("kinds", .ref D1), ("own_letters", .ref D2), ("letters", .ref D3), ("places", .ref ap), ("short", .bl g.short), ("mixed", .bl g.mixed), ("minus", .bl (readsNum g))]) := upd_same
    have b7 : ExB me H6 (upd H7' me (.ins CR dx (putF "minus" (.bl (readsNum g)) [("kinds", .ref D1), ("own_letters", .ref D2), ("letters", .ref D3), ("places", .ref ap), ("short", .bl g.short), ("mixed", .bl g.mixed)]))) := (ExB.of e7).trans .put
    generalize upd H7' me (.ins CR dx (putF "minus" (.bl (readsNum g)) [("kinds", .ref D1), ("own_letters", .ref D2), ("letters", .ref D3), ("places", .ref ap), ("short", .bl g.short), ("mixed", .bl g.mixed)])) = H7 at o7 b7
    have x7 : Ex H0 H7 := ((((((b1.trans b2).trans b3).trans b4).trans b5).trans b6).trans b7).ex e0 n0
    -- self.fewest, self.most
    refine ⟨_, rfl, ap, g, rfl, h3.mono x7, ok.pl, fun p H8 e8 sp => ?_⟩
    have o7' := e8 _ _ o7
    refine ⟨p, _, rfl, sp, rfl, _, _, rfl, _, rfl, me, CR, dx, _, rfl, o7', T'.cl, T'.fewest, few _ (by show 7 ≤ 12; decide), ?_⟩
    refine ⟨_, _, rfl, _, rfl, me, CR, dx, _, rfl, upd_same, T'.cl, T'.most, few _ (by show 8 ≤ 12; decide), rfl, ?_⟩
    rw [upd_upd]
    generalize hH9 : upd H8 me _ = H9
    have b9 : ExB me H7 H9 := by rw [← hH9]; exact (ExB.of e8).trans .put
    have o9 : H9 me = some (.ins CR dx (ruF g D1 D2 D3 ap)) := by rw [← hH9]; exact upd_same
    have c2 := ((((b3.trans b4).trans b5).trans b6).trans b7).trans b9
    have c3 := (((b4.trans b5).trans b6).trans b7).trans b9
    have c1 := b2.trans c2
    have x9 : Ex H0 H9 := (b1.trans c1).ex e0 n0
    exact q H9 x9 ⟨dx, D1, D2, D3, ap, o9, c1 _ _ D1me k1, c2 _ _ D2me k2, c3 _ _ D3me k3, h3.mono x9⟩
abbrev s_initR : Stmt := inClass (top 42) 0
theorem sc_initR : FnScope ["self", "rules"] ["self", "rules"] (C8.fnScope s_initR) := C8.fnScope_by (by decide +kernel)
theorem ok_initR (T' : RdC K C) (M : Mk K C f) (hC : mg "Reading" = some (.ref C)) (F : C8.Fun K "__init__" "Reading.__init__" s_initR f fd) (b : Binds K fd ["self", "rules"] []) (B : Blt mg) :
    C8.Mak P w K mg base 1 "Reading" C (spInitR K CR C) [] :=
  C8.mak0 M hC F b .nil sc_initR (fun vs H Q E h => by obtain ⟨_, _, _, _, _, rfl, _⟩ := h; rfl) fun cdv A outer s H vs Q E hr h => by
    have nd := sc_initR.nd
    obtain ⟨g, H0, me, dx, ru, rfl, hme, e0, n0, R, q⟩ := h
    have few : ∀ n : Nat, n ≤ 12 → n < 1000 := fun n h => by omega
    have m1 : ∀ {H : Hp} {d : Addr} {fs : List (Str × V)}, H me = some (.ins C dx fs) → H d = none → d ≠ me := fun h h' z => by rw [z, h] at h'; cases h'
    refine ⟨_, (pss_cons (ps_fld (pv 0) (pv 1) rfl)
      (pss_cons (ps_fld (pv 0) pe_bl rfl)
      (pss_cons (ps_fld (pv 0) pe_non rfl)
      (pss_cons (ps_fld (pv 0) pe_bl rfl)
      (pss_cons (ps_fld (pv 0) pe_non rfl)
      (pss_cons (ps_fld (pv 0) pe_bl rfl)
      (pss_cons (ps_fld (pv 0) pe_dnewK rfl)
      (pss_one (ps_fld (pv 0) (pe_lst pa_nil) rfl))))))))), ?_⟩
    refine ⟨_, rfl, _, rfl, me, C, dx, _, rfl, hme, T'.cl, T'.rules, few _ (by show 0 ≤ 12; decide), ?_⟩
    refine ⟨_, rfl, me, C, dx, _, rfl, upd_same, T'.cl, T'.closed, few _ (by show 1 ≤ 12; decide), ?_⟩
    refine ⟨_, rfl, me, C, dx, _, rfl, upd_same, T'.cl, T'.awaited, few _ (by show 2 ≤ 12; decide), ?_⟩
    refine ⟨_, rfl, me, C, dx, _, rfl, upd_same, T'.cl, T'.refused, few _ (by show 3 ≤ 12; decide), ?_⟩
    refine ⟨_, rfl, me, C, dx, _, rfl, upd_same, T'.cl, T'.shortened, few _ (by show 4 ≤ 12; decide), ?_⟩
    refine ⟨_, rfl, me, C, dx, _, rfl, upd_same, T'.cl, T'.numbered, few _ (by show 5 ≤ 12; decide), ?_⟩
    rw [upd_upd, upd_upd, upd_upd, upd_upd, upd_upd]
    generalize hH1 : upd H me _ = H1
    have b1 : ExB me H H1 := by rw [← hH1]; exact .put
    have o1 : H1 me = some (.ins C dx [("rules", .ref ru), ("closed", .bl false), ("awaited", .non), ("refused", .bl false), ("shortened", .non), ("numbered", .bl false)]) := by rw [← hH1]; exact upd_same
    -- self.got
    intro D nD
    have Dme : D ≠ me := m1 o1 nD
    have e2 : Ex H1 (upd H1 D (.dK [])) := Ex.new nD
    refine ⟨_, rfl, me, C, dx, _, rfl, e2 _ _ o1, T'.cl, T'.got, few _ (by show 6 ≤ 12; decide), ?_⟩
    generalize hH2 : upd (upd H1 D (.dK [])) me _ = H2
    have b2 : ExB me H1 H2 := by rw [← hH2]; exact (ExB.of e2).trans .put
    have o2 : H2 me = some (.ins C dx [("rules", .ref ru), ("closed", .bl false), ("awaited", .non), ("refused", .bl false), ("shortened", .non), ("numbered", .bl false), ("got", .ref D)]) := by rw [← hH2]; exact upd_same
    have k2 : H2 D = some (.dK []) := by rw [← hH2, upd_ne Dme, upd_same]
    -- self.placed
    refine ⟨Nat.zero_le _, fun L nL => ?_⟩
    have Lme : L ≠ me := m1 o2 nL
    have e3 : Ex H2 (upd H2 L (.lst [])) := Ex.new nL
    refine ⟨_, rfl, me, C, dx, _, rfl, e3 _ _ o2, T'.cl, T'.placed, few _ (by show 7 ≤ 12; decide), ?_⟩
    generalize hH3 : upd (upd H2 L (.lst [])) me _ = H3
    have b3 : ExB me H2 H3 := by rw [← hH3]; exact (ExB.of e3).trans .put
    have o3 : H3 me = some (.ins C dx (flds ⟨me, dx, ru, D, L, []⟩ rs0)) := by rw [← hH3]; exact upd_same
    have kL : H3 L = some (.lst []) := by rw [← hH3, upd_ne Lme, upd_same]
    have kD : H3 D = some (.dK []) := b3 _ _ Dme k2
    have x3 : Ex H0 H3 := ((b1.trans b2).trans b3).ex e0 n0
    have nD_0 : H0 D = none := fresh_back (b1.ex e0 n0) nD
    have nL_0 : H0 L = none := fresh_back ((b1.trans b2).ex e0 n0) nL
    refine q H3 D L ⟨[], ?_⟩
    exact
    { ob := o3
      few := Nat.zero_le _
      xm := fun _ _ => rfl
      ru_ := R
      rep := ⟨x3, kD, rfl, List.nodup_nil, fun _ _ => rfl, fun t m => absurd m List.not_mem_nil, fun i t p e => by simp [rs0] at e, List.nodup_nil, fun p m => absurd m List.not_mem_nil, nD_0⟩
      cm := fun _ => Nat.le_refl _
      tm := Nat.le_refl _
      pL_ := kL
      pm := Nat.le_refl _
      np := List.not_mem_nil
      f0 := n0
      f1 := nL_0
      an := fun _ z => nomatch z }
end
end K9

set_option Elab.async false
set_option maxRecDepth 100000
set_option maxHeartbeats 4000000
namespace K9
open PySem PySem.Spec PyProof.Rows L2 SX Evl KL
section
variable {P : Program} {w : World} {K : PySem.W.Frag} {mg : Str → Option Value} {base : Heap} {f : Addr} {fd : FuncData} {aK aA aV aL CR C : Addr}
abbrev s_is_accepted : Stmt := inClass (top 42) 1
theorem sc_is_accepted : FnScope ["self"] ["self"] (C8.fnScope s_is_accepted) := C8.fnScope_by (by decide +kernel)
theorem ok_isAcc (T' : RdC K C) (me : Meth K C "is_accepted" f) (F : C8.Fun K "is_accepted" "Reading.is_accepted" s_is_accepted f fd) (b : Binds K fd ["self"] []) (B : Blt mg) (M_deals : C8.Met P w K mg base 2 CR "deals" (spDeals K CR) []) : C8.Met P w K mg base 3 C "is_accepted" (spIsAcc K CR C) [] :=
  C8.met0 T'.cl me F b sc_is_accepted (fun vs H Q E h => h.1) fun cdv A outer s H vs Q E hr h => by
    have nd := sc_is_accepted.nd
    obtain ⟨_, v, ⟨g, H0, i, st, m, rfl, ⟨ps, R⟩, rfl⟩, q⟩ := h
    refine ⟨_, (pss_cons (ps_if (PW.pt (pw_or (pt_val (pe_fld (pv 0) rfl)) (pw_or1 (pt_cmp (pc_notN (pe_fld (pv 0) rfl)))))) (pss_one (ps_ret pe_bl)) pss_nil)
      (pss_one (ps_ret (C8.pe_mt M_deals hr (by decide) (pe_fld (pv 0) rfl) (pa_cons (pe_callB (id := "len") call_len_seq (by rfl) B.len_ (by decide +kernel) (pa_cons (pe_fld (pv 0) rfl) pa_nil)) pa_nil))))), ?_⟩
    unfold accF at q
    refine ⟨_, rfl, i.me, C, i.dx, _, _, rfl, R.ob, T'.cl, T'.refused, rfl, _, rfl, ?_⟩
    cases hr : st.refused with
    | true =>
      rw [hr] at q
      exact iteT (q H (Ex.refl _))
    | false =>
      rw [hr] at q
      refine iteF ⟨_, rfl, i.me, C, i.dx, _, _, rfl, R.ob, T'.cl, T'.awaited, rfl, _, rfl, ?_⟩
      cases ha : st.awaited with
      | some n =>
        rw [ha] at q
        exact iteT (q H (Ex.refl _))
      | none =>
        rw [ha] at q
        have R0 := R.ru
        obtain ⟨dxr, dK, dO, dL, ap, RU⟩ := R.ru
        refine iteF ⟨_, rfl, i.me, C, i.dx, _, _, rfl, R.ob, T'.cl, T'.rules, rfl, i.ru, dxr, _, rfl, RU.ob, rfl, _, rfl, i.me, C, i.dx, _, _, rfl, R.ob, T'.cl, T'.placed, rfl, i.pL, _, rfl, .inl (sq_of R.pL_), rfl, _, ⟨g, i.ru, _, rfl, R0, rfl⟩, fun H1 e1 => q H1 e1⟩
abbrev s_is_lasting : Stmt := inClass (top 42) 2
theorem sc_is_lasting : FnScope ["self"] ["self"] (C8.fnScope s_is_lasting) := C8.fnScope_by (by decide +kernel)
theorem ok_isLast (T' : RdC K C) (me : Meth K C "is_lasting" f) (F : C8.Fun K "is_lasting" "Reading.is_lasting" s_is_lasting f fd) (b : Binds K fd ["self"] []) (B : Blt mg) : C8.Met P w K mg base 1 C "is_lasting" (spIsLast K CR C) [] :=
  C8.met0 T'.cl me F b sc_is_lasting (fun vs H Q E h => h.1) fun cdv A outer s H vs Q E hr h => by
    have nd := sc_is_lasting.nd
    obtain ⟨_, v, ⟨g, H0, i, st, m, rfl, ⟨ps, R⟩, rfl⟩, q⟩ := h
    refine ⟨_, (pss_one (ps_ret (pe_and (pe_cmp (pc_isN (pe_fld (pv 0) rfl)) rfl) (pe_one (pe_not (pe_fld (pv 0) rfl)))))), ?_⟩
    unfold lastF at q
    refine ⟨_, rfl, i.me, C, i.dx, _, _, rfl, R.ob, T'.cl, T'.shortened, rfl, _, rfl, ?_⟩
    cases ha : st.shortened with
    | some n =>
      rw [ha] at q
      exact iteF (q H (Ex.refl _))
    | none =>
      rw [ha] at q
      exact iteT ⟨_, rfl, i.me, C, i.dx, _, _, rfl, R.ob, T'.cl, T'.numbered, rfl, _, rfl, q H (Ex.refl _)⟩
abbrev s_read_by : Stmt := top 43
theorem sc_read_by : FnScope ["rules", "words", "reading", "word"] ["rules", "words"] (C8.fnScope s_read_by) := C8.fnScope_by (by decide +kernel)
theorem ok_readBy (T' : RdC K C) (F : C8.Def K mg "read_by" s_read_by f fd) (b : Binds K fd ["rules", "words"] []) (B : Blt mg) (C_Reading : C8.Mak P w K mg base 1 "Reading" C (spInitR K CR C) []) (M_read_word : C8.Met P w K mg base 4 C "read_word" (spWordM K CR C) []) : C8.Cal P w K mg base 5 "read_by" (spReadBy K CR C) [] :=
  C8.cal0 F b .nil sc_read_by (fun vs H Q E h => by obtain ⟨_, _, _, _, rfl, _⟩ := h; rfl) fun cdv A outer s H vs Q E hr h => by
    have nd := sc_read_by.nd
    obtain ⟨g, ru, b', line, rfl, R, ok, hb, l80, w80, tot, q⟩ := h
    refine ⟨_, (pss_cons (ps_set (i := 2) nd rfl (by first | exact Or.inl rfl | exact Or.inr rfl) (C8.pe_mk C_Reading hr (by decide) rfl (pa_cons (pv 0) pa_nil)))
      (pss_cons (ps_for PassesOwn.never rfl (pi_tup (pv 1)) (pg_name (i := 3) nd rfl (by first | exact Or.inl rfl | exact Or.inr rfl)) (pss_cons (ps_if (pt_val (pe_fld (pv 2) rfl)) (pss_one (ps_ret (pv 2))) pss_nil)
      (pss_one (ps_expr (C8.pe_mt M_read_word hr (by decide) (pv 2) (pa_cons (pv 3) pa_nil))))))
      (pss_one (ps_ret (pv 2))))), ?_⟩
    refine ⟨_, rfl, fun x dx nx ndx nex => ?_⟩
    have e1 : Ex H (upd (upd H dx (.own x)) x (.ins C dx [])) := (Ex.new ndx).trans (Ex.new (by rw [upd_ne (Ne.symm nex)]; exact nx))
    refine ⟨g, H, x, dx, ru, rfl, upd_same, e1, nx, R, fun H1 dG pL R1 => ⟨rfl, ?_⟩⟩
    have ex1 : Ex H H1 := by obtain ⟨_, R⟩ := R1; exact R.rep.ex
    refine ⟨_, rfl, b', rfl, ⟨_, ex_t ex1 hb⟩, for_it (L2.walk_tup (K := K) (a := b') (xs := line.map ss)) (fun i σ H2 => ∃ y st m1, σ = [some (.ref ru), some (.ref b'), some (.ref x), y] ∧ Rd_ K g CR C H H2 ⟨x, dx, ru, dG, pL, []⟩ st m1 ∧ m1 ≤ totL (line.take i) ∧ ((st.refused = false ∧ lineF g (line.drop i) st = lineF g line rs0) ∨ (st.refused = true ∧ st = lineF g line rs0)))
      ⟨_, rs0, 0, rfl, R1, Nat.zero_le _, .inl ⟨rfl, rfl⟩⟩ (fun i σ H2 _ ⟨_, _, _, _, ⟨_, R⟩, _⟩ => ex_t R.rep.ex hb) ?_ ?_⟩
    · rintro i y σ H2 H3 hi ⟨y0, st, m1, rfl, R2', hm1, hgo⟩ ⟨rfl, hy⟩
      rw [List.length_map] at hi
      have hl : line[i]? = some line[i] := List.getElem?_eq_getElem hi
      rw [List.getElem?_map, hl] at hy
      obtain rfl : ss line[i] = y := Option.some.inj hy
      have dr : line.drop i = line[i] :: line.drop (i + 1) := List.drop_eq_getElem_cons hi
      have wl := w80 _ (List.mem_of_getElem? hl)
      have tk : totL (line.take (i + 1)) = totL (line.take i) + (line[i].length + 1) := by
        unfold totL
        rw [take_snoc hl, List.map_append, List.sum_append]
        simp
      have tle : totL (line.take (i + 1)) ≤ totL line := by
        have z := congrArg totL (List.take_append_drop (i + 1) line)
        unfold totL at z ⊢
        rw [List.map_append, List.sum_append] at z
        omega
      generalize line[i] = l at dr wl tk
      obtain ⟨ps, R2⟩ := R2'
      refine ⟨_, rfl, x, C, dx, _, _, rfl, R2.ob, T'.cl, T'.refused, rfl, _, rfl, ?_⟩
      rcases hgo with ⟨hrf, hgo⟩ | ⟨hrf, hgo⟩
      · rw [hrf]
        refine iteF ⟨_, rfl, x, dx, _, rfl, R2.ob, R2.met "read_word", _, rfl, g, H, ⟨x, dx, ru, dG, pL, []⟩, l, st, m1, rfl, ok, by omega, ⟨ps, R2⟩, by omega, fun H4 R4 => ?_⟩
        refine ⟨_, _, m1 + l.length + 1, rfl, R4, by omega, ?_⟩
        rw [dr] at hgo
        have hgo : (if (wordF g l st).refused then wordF g l st else lineF g (line.drop (i + 1)) (wordF g l st)) = lineF g line rs0 := hgo
        cases hr : (wordF g l st).refused with
        | true =>
          rw [if_pos hr] at hgo
          exact .inr ⟨rfl, hgo⟩
        | false =>
          rw [if_neg (by rw [hr]; exact Bool.false_ne_true)] at hgo
          exact .inl ⟨rfl, hgo⟩
      · rw [hrf]
        exact iteT ⟨_, rfl, q _ m1 _ (by rw [← hgo]; exact ⟨ps, R2⟩) (by omega)⟩
    · rintro σ H2 ⟨y0, st, m1, rfl, R2, hm1, hgo⟩
      rw [List.length_map] at hm1 hgo
      rw [List.take_length] at hm1
      rw [List.drop_length] at hgo
      have hgo : st = lineF g line rs0 := by
        rcases hgo with ⟨_, h⟩ | ⟨_, h⟩
        · exact h
        · exact h
      exact ⟨_, rfl, q _ m1 _ (by rw [← hgo]; exact R2) hm1⟩
end
end K9

set_option Elab.async false
set_option maxRecDepth 100000
set_option maxHeartbeats 4000000
namespace K9
open PySem PySem.Spec PyProof.Rows L2 SX Evl KL
section
variable {P : Program} {w : World} {K : PySem.W.Frag} {mg : Str → Option Value} {base : Heap} {f : Addr} {fd : FuncData} {aK aA aV aL CR C : Addr}
abbrev s_lasts : Stmt := top 44
theorem sc_lasts : FnScope ["grammar", "line", "reading"] ["grammar", "line"] (C8.fnScope s_lasts) := C8.fnScope_by (by decide +kernel)
theorem ok_lasts (T' : RdC K C) (F : C8.Def K mg "lasts" s_lasts f fd) (b : Binds K fd ["grammar", "line"] []) (B : Blt mg) (C_need_grammar : C8.Cal P w K mg base 5 "need_grammar" (spNeedGr K) []) (C_need_line : C8.Cal P w K mg base 3 "need_line" (spNeedLine K) [])
    (C_Rules : C8.Mak P w K mg base 3 "Rules" CR (spInitU K CR) []) (C_read_by : C8.Cal P w K mg base 5 "read_by" (spReadBy K CR C) []) (M_is_accepted : C8.Met P w K mg base 3 C "is_accepted" (spIsAcc K CR C) []) (M_is_lasting : C8.Met P w K mg base 1 C "is_lasting" (spIsLast K CR C) []) : C8.Cal P w K mg base 6 "lasts" (spLasts K) [] :=
  C8.cal0 F b .nil sc_lasts (fun vs H Q E h => h.1) fun cdv A outer s H vs Q E hr h => by
    have nd := sc_lasts.nd
    obtain ⟨_, v, ⟨g, a, b', line, rfl, ha, ok, hb, l80, hw, rfl⟩, q⟩ := h
    refine ⟨_, (pss_cons (ps_expr (C8.pe_c C_need_grammar hr (by decide) rfl (pa_cons (pv 0) pa_nil)))
      (pss_cons (ps_expr (C8.pe_c C_need_line hr (by decide) rfl (pa_cons (pv 1) pa_nil)))
      (pss_cons (ps_set (i := 2) nd rfl (by first | exact Or.inl rfl | exact Or.inr rfl) (C8.pe_c C_read_by hr (by decide) rfl (pa_cons (C8.pe_mk C_Rules hr (by decide) rfl (pa_cons (pv 0) pa_nil)) (pa_cons (pv 1) pa_nil))))
      (pss_one (ps_ret (pe_and (C8.pe_mt0 M_is_accepted hr (by decide) (pv 2)) (pe_one (C8.pe_mt0 M_is_lasting hr (by decide) (pv 2))))))))), ?_⟩
    refine ⟨_, rfl, rfl, _, ⟨a, g, rfl, ha, ok, rfl⟩, fun H1 e1 => ?_⟩
    refine ⟨_, rfl, rfl, _, ⟨b', line, rfl, ex_t e1 hb, l80, hw, rfl⟩, fun H2 e2 => ?_⟩
    have e12 := e1.trans e2
    unfold lastsF acceptedF at q
    refine ⟨_, rfl, fun x dx nx ndx nex => ?_⟩
    have e3 : Ex H2 (upd (upd H2 dx (.own x)) x (.ins CR dx [])) := (Ex.new ndx).trans (Ex.new (by rw [upd_ne (Ne.symm nex)]; exact nx))
    refine ⟨g, H2, x, dx, a, rfl, upd_same, e3, nx, ha.mono e12, ok, fun H3 x3 RU => ⟨rfl, ?_⟩⟩
    have e13 := e12.trans x3
    have wl : ∀ l ∈ line, l.length ≤ 80 := fun l hl => by
      have := hw l hl
      unfold wordOk at this
      exact of_decide_eq_true (Bool.and_eq_true_iff.mp this).1
    refine ⟨_, rfl, g, x, b', line, rfl, RU, ok, ex_t e13 hb, by omega, fun l hl => by have := wl l hl; omega, tot_le wl l80, fun i m H4 R4 _ => ?_⟩
    have ex4 : Ex H3 H4 := by obtain ⟨_, R⟩ := R4; exact R.rep.ex
    obtain ⟨ps, R⟩ := R4
    refine ⟨_, rfl, i.me, i.dx, _, rfl, R.ob, R.met "is_accepted", rfl, _, ⟨g, _, i, _, m, rfl, ⟨ps, R⟩, rfl⟩, fun H5 e5 => ⟨_, rfl, ?_⟩⟩
    have R5 := R.mono e5
    cases hac : accF g (lineF g line rs0) with
    | false =>
      rw [hac] at q
      exact iteF (q H5 ((e13.trans ex4).trans e5))
    | true =>
      rw [hac] at q
      exact iteT ⟨_, rfl, i.me, i.dx, _, rfl, R5.ob, R5.met "is_lasting", rfl, _, ⟨g, _, i, _, m, rfl, ⟨ps, R5⟩, rfl⟩, fun H6 e6 => q H6 (((e13.trans ex4).trans e5).trans e6)⟩
end
end K9

set_option Elab.async false
set_option maxRecDepth 100000
set_option maxHeartbeats 4000000
/-! Rows of lines with flags, laid in the heap; how displays of them evaluate. -/
namespace KL
open PySem PySem.Spec PyProof.Rows L2 SX Evl
abbrev Row := List (List Nat) × List Bool
def RowAt (K : PySem.W.Frag) (H : Hp) (a : Addr) (r : Row) : Prop := ∃ b, SqT K H a (.ref b :: r.2.map V.bl) ∧ SqT K H b (r.1.map ss)
theorem RowAt.mono {K : PySem.W.Frag} {H H' : Hp} {a : Addr} {r : Row} (e : Ex H H') (h : RowAt K H a r) : RowAt K H' a r := by
  obtain ⟨b, h1, h2⟩ := h
  exact ⟨b, ex_t e h1, ex_t e h2⟩
def RowsL (K : PySem.W.Frag) (H : Hp) (R : Addr) (rs : List Row) : Prop := ∃ as : List Addr, H R = some (.lst (as.map V.ref)) ∧ Paired (RowAt K H) as rs
theorem RowsL.mono {K : PySem.W.Frag} {H H' : Hp} {a : Addr} {rs : List Row} (e : Ex H H') (h : RowsL K H a rs) : RowsL K H' a rs := by
  obtain ⟨as, h1, h2⟩ := h
  exact ⟨as, e _ _ h1, L2.Paired.mapP h2 fun _ _ z => RowAt.mono e z⟩
def EvR (K : PySem.W.Frag) (te : TE) (σ : L2.St) (H : Hp) (r : Row) : Prop := ∀ H1, Ex H H1 → ∀ Q : VK, (∀ a H2, Ex H1 H2 → RowAt K H2 a r → Q (.ref a) H2) → te σ H1 Q
def EvRs (K : PySem.W.Frag) (ta : TA) (σ : L2.St) (H : Hp) (rs : List Row) : Prop := ∀ H1, Ex H H1 → ∀ Q : List V → Hp → Prop, (∀ as H2, Ex H1 H2 → Paired (RowAt K H2) as rs → Q (as.map V.ref) H2) → ta σ H1 Q
def EvRL (K : PySem.W.Frag) (te : TE) (σ : L2.St) (H : Hp) (rs : List Row) : Prop := ∀ H1, Ex H H1 → ∀ Q : VK, (∀ R H2, Ex H1 H2 → RowsL K H2 R rs → Q (.ref R) H2) → te σ H1 Q
section
variable {K : PySem.W.Frag} {σ : L2.St} {H : Hp} {ta tb : TA} {te tf : TE}
theorem ev_lit {x : Str} {l : List Nat} (h : V.str x = ss l) : Ev (tC (V.str x)) σ H (ss l) := ev_is ev_c h
theorem ev_cat {x y : List Nat} (ha : Ev te σ H (ss x)) (hb : Ev tf σ H (ss y)) (hz : x.length + y.length ≤ 1000) :
    Ev (tOp (fun x y H Q => ∃ i j, x = V.str i ∧ y = V.str j ∧ i.length + j.length ≤ sizeLine ∧ Q (V.str (i ++ j)) H) te tf) σ H (ss (x ++ y)) :=
  ev_op ha hb fun H1 _ Q q => ⟨S x, S y, rfl, rfl, by rw [S_len, S_len]; exact Nat.le_of_lt (small1000 hz), by
    rw [S_cat]
    exact q H1 (Ex.refl H1)⟩
theorem rs_nil : EvRs K tNil σ H [] := fun H1 _ _ q => q [] H1 (Ex.refl H1) .nil
theorem rs_cons {r : Row} {rs : List Row} (h : EvR K te σ H r) (hr : EvRs K ta σ H rs) : EvRs K (tCons te ta) σ H (r :: rs) := fun H1 e Q q =>
  h H1 e _ fun a H2 e2 h2 => hr H2 (e.trans e2) _ fun as H3 e3 h3 => q (a :: as) H3 (e2.trans e3) (.cons (h2.mono e3) h3)
theorem ev_row {r : Row} (h1 : EvA ta σ H (r.1.map ss)) (h2 : EvA tb σ H (r.2.map V.bl)) (hz : r.1.length ≤ 100) (hz2 : r.2.length = 4 := by rfl) : EvR K (tTup (tCons (tTup ta) tb)) σ H r := fun H1 e Q q => by
  have key : tTup ta σ H1 (fun x H2 => tb σ H2 fun xs H3 => (x :: xs).length ≤ sizeLine ∧ ∀ p, H3 p = none → Q (.ref p) (upd H3 p (.tup (x :: xs)))) := by
    refine eu_tup h1 (by rw [List.length_map]; omega) H1 e _ fun p H2 _ e2 hp => ?_
    refine h2 H2 (e.trans e2) _ fun H3 e3 => ?_
    refine ⟨sz_of (by simp; omega), fun a ha => ?_⟩
    exact q a _ ((e2.trans e3).trans (Ex.new ha)) ⟨p, st_of upd_same, ex_t (e3.trans (Ex.new ha)) (st_of hp)⟩
  exact key
theorem rl_lst {rs : List Row} (h : EvRs K ta σ H rs) (hz : rs.length ≤ 100) : EvRL K (tLst ta) σ H rs := fun H1 e Q q =>
  h H1 e _ fun as H2 e2 h2 => by
    have ln : as.length = rs.length := h2.length
    refine ⟨sz_of (by rw [List.length_map]; omega), fun R hR => ?_⟩
    exact q R _ (e2.trans (Ex.new hR)) ⟨as, upd_same, L2.Paired.mapP h2 fun _ _ z => RowAt.mono (Ex.new hR) z⟩
theorem paired_app {α β : Type} {R : α → β → Prop} : ∀ {as : List α} {bs : List β} {as' : List α} {bs' : List β}, Paired R as bs → Paired R as' bs' → Paired R (as ++ as') (bs ++ bs')
  | _, _, _, _, .nil, h => h
  | _, _, _, _, .cons r t, h => .cons r (paired_app t h)
theorem rl_cat {rs rs2 : List Row} (h : EvRL K te σ H rs) (h2 : EvRL K tf σ H rs2) (hz : rs.length + rs2.length ≤ 1000) : EvRL K (tOp rCat te tf) σ H (rs ++ rs2) := fun H1 e Q q =>
  h H1 e _ fun R H2 e2 ⟨as, hR, hp⟩ => h2 H2 (e.trans e2) _ fun R2 H3 e3 ⟨as2, hR2, hp2⟩ => by
    have l1 : as.length = rs.length := hp.length
    have l2 : as2.length = rs2.length := hp2.length
    refine ⟨R, R2, _, _, rfl, rfl, e3 _ _ hR, hR2, sz_of (by rw [List.length_map, List.length_map]; omega), fun p hpn => ?_⟩
    refine q p _ ((e2.trans e3).trans (Ex.new hpn)) ⟨as ++ as2, by rw [upd_same, List.map_append], ?_⟩
    refine paired_app (L2.Paired.mapP hp fun _ _ z => RowAt.mono (e3.trans (Ex.new hpn)) z) (L2.Paired.mapP hp2 fun _ _ z => RowAt.mono (Ex.new hpn) z)
theorem rl_var {i : Nat} {R : Addr} {rs : List Row} (h : σ[i]? = some (some (.ref R))) (hR : RowsL K H R rs) : EvRL K (tVar i) σ H rs := fun H1 e Q q => ⟨.ref R, h, q R H1 (Ex.refl H1) (hR.mono e)⟩
end
theorem seq_rows {K : PySem.W.Frag} {te : TE} {i : Nat} {u : TS} {D : Ends} {σ : L2.St} {H : Hp} {rs : List Row} (σ' : Addr → L2.St) (h : EvRL K te σ H rs) (k : ∀ R H2, Ex H H2 → RowsL K H2 R rs → u D (σ' R) H2) (hσ : ∀ R, σ.set i (some (.ref R)) = σ' R) : tSeq (tAsg te (gName i)) u D σ H :=
  h H (Ex.refl _) _ fun R H2 e r => by
    have z := k R H2 e r
    rw [← hσ R] at z
    exact z
theorem ret_rows {K : PySem.W.Frag} {te : TE} {D : Ends} {σ : L2.St} {H : Hp} {rs : List Row} (h : EvRL K te σ H rs) (k : ∀ R H2, Ex H H2 → RowsL K H2 R rs → D.rt (.ref R) H2) : tRet te D σ H :=
  h H (Ex.refl _) _ fun R H2 e r => k R H2 e r
/-- the law's rows: lines, and whether they last by its four grammars -/
def rowsP0 (nm2 c d sh vl zz : List Nat) : List (List (List Nat) × List Bool) := [([nm2, [45, 53]], [true, true, true, true]), ([([45, 45] ++ sh), vl], [false, false, false, false])]
def rowsP1 (nm2 c d sh vl zz : List Nat) : List (List (List Nat) × List Bool) := [([((nm2 ++ [61]) ++ vl)], [true, true, true, true]), ([(([45, 45] ++ sh) ++ [61])], [false, false, false, false])]
def rowsP2 (nm2 c d sh vl zz : List Nat) : List (List (List Nat) × List Bool) := [([(([45] ++ c) ++ [118])], [true, true, true, true]), ([(([45] ++ d) ++ d)], [true, true, true, true])]
def rowsP3 (nm2 c d sh vl zz : List Nat) : List (List (List Nat) × List Bool) := [([(([45] ++ d) ++ c), [45, 53]], [true, true, true, true]), ([[119], [45, 53]], [false, true, false, false])]
def rowsP4 (nm2 c d sh vl zz : List Nat) : List (List (List Nat) × List Bool) := [([[45, 53]], [false, false, false, false]), ([[45, 45], [45, 53]], [true, true, true, true])]
def rowsP5 (nm2 c d sh vl zz : List Nat) : List (List (List Nat) × List Bool) := [([[45]], [true, true, true, true]), ([[]], [true, true, true, true]), ([], [true, true, true, true])]
def rowsP6 (nm2 c d sh vl zz : List Nat) : List (List (List Nat) × List Bool) := [([[45, 45], ([45, 45] ++ sh)], [true, true, true, true]), ([nm2, ([45, 45] ++ sh)], [true, true, true, true])]
def rowsP7 (nm2 c d sh vl zz : List Nat) : List (List (List Nat) × List Bool) := [([nm2, [45, 45], [45, 53]], [false, false, false, false]), ([nm2], [false, false, false, false])]
def rowsP8 (nm2 c d sh vl zz : List Nat) : List (List (List Nat) × List Bool) := [([[119], (([45, 45] ++ sh) ++ [61])], [false, true, false, false]), ([[119], (nm2 ++ [61])], [true, true, true, true])]
def rowsP9 (nm2 c d sh vl zz : List Nat) : List (List (List Nat) × List Bool) := [([((([45] ++ c) ++ [45, 45]) ++ sh)], [true, true, true, true]), ([([45, 45] ++ zz)], [true, true, true, true])]
def rowsP10 (nm2 c d sh vl zz : List Nat) : List (List (List Nat) × List Bool) := [([nm2, vl, ([45, 45] ++ sh), vl], [false, false, false, false])]
def rowsP11 (nm2 c d sh vl zz : List Nat) : List (List (List Nat) × List Bool) := [([[45, 45, 61]], [false, false, false, false]), ([(([45] ++ c) ++ c), ([45] ++ d)], [true, true, true, true])]
def rowsP12 (nm2 c d sh vl zz : List Nat) : List (List (List Nat) × List Bool) := [([[45, 45], [45, 45], ([45] ++ vl)], [true, true, true, true]), ([([45] ++ d), [45], [46]], [true, true, true, true])]
def rowsU0 (nm2 c d sh vl zz : List Nat) : List Row := rowsP0 nm2 c d sh vl zz
def rowsU1 (nm2 c d sh vl zz : List Nat) : List Row := rowsU0 nm2 c d sh vl zz ++ rowsP1 nm2 c d sh vl zz
def rowsU2 (nm2 c d sh vl zz : List Nat) : List Row := rowsU1 nm2 c d sh vl zz ++ rowsP2 nm2 c d sh vl zz
def rowsU3 (nm2 c d sh vl zz : List Nat) : List Row := rowsU2 nm2 c d sh vl zz ++ rowsP3 nm2 c d sh vl zz
def rowsU4 (nm2 c d sh vl zz : List Nat) : List Row := rowsU3 nm2 c d sh vl zz ++ rowsP4 nm2 c d sh vl zz
def rowsU5 (nm2 c d sh vl zz : List Nat) : List Row := rowsU4 nm2 c d sh vl zz ++ rowsP5 nm2 c d sh vl zz
def rowsU6 (nm2 c d sh vl zz : List Nat) : List Row := rowsU5 nm2 c d sh vl zz ++ rowsP6 nm2 c d sh vl zz
def rowsU7 (nm2 c d sh vl zz : List Nat) : List Row := rowsU6 nm2 c d sh vl zz ++ rowsP7 nm2 c d sh vl zz
def rowsU8 (nm2 c d sh vl zz : List Nat) : List Row := rowsU7 nm2 c d sh vl zz ++ rowsP8 nm2 c d sh vl zz
def rowsU9 (nm2 c d sh vl zz : List Nat) : List Row := rowsU8 nm2 c d sh vl zz ++ rowsP9 nm2 c d sh vl zz
def rowsU10 (nm2 c d sh vl zz : List Nat) : List Row := rowsU9 nm2 c d sh vl zz ++ rowsP10 nm2 c d sh vl zz
def rowsU11 (nm2 c d sh vl zz : List Nat) : List Row := rowsU10 nm2 c d sh vl zz ++ rowsP11 nm2 c d sh vl zz
def rowsU12 (nm2 c d sh vl zz : List Nat) : List Row := rowsU11 nm2 c d sh vl zz ++ rowsP12 nm2 c d sh vl zz
theorem lU0 {nm2 c d sh vl zz : List Nat} : (rowsU0 nm2 c d sh vl zz).length = 2 := rfl
theorem lP0 {nm2 c d sh vl zz : List Nat} : (rowsP0 nm2 c d sh vl zz).length = 2 := rfl
theorem lU1 {nm2 c d sh vl zz : List Nat} : (rowsU1 nm2 c d sh vl zz).length = 4 := rfl
theorem lP1 {nm2 c d sh vl zz : List Nat} : (rowsP1 nm2 c d sh vl zz).length = 2 := rfl
theorem lU2 {nm2 c d sh vl zz : List Nat} : (rowsU2 nm2 c d sh vl zz).length = 6 := rfl
theorem lP2 {nm2 c d sh vl zz : List Nat} : (rowsP2 nm2 c d sh vl zz).length = 2 := rfl
theorem lU3 {nm2 c d sh vl zz : List Nat} : (rowsU3 nm2 c d sh vl zz).length = 8 := rfl
theorem lP3 {nm2 c d sh vl zz : List Nat} : (rowsP3 nm2 c d sh vl zz).length = 2 := rfl
theorem lU4 {nm2 c d sh vl zz : List Nat} : (rowsU4 nm2 c d sh vl zz).length = 10 := rfl
theorem lP4 {nm2 c d sh vl zz : List Nat} : (rowsP4 nm2 c d sh vl zz).length = 2 := rfl
theorem lU5 {nm2 c d sh vl zz : List Nat} : (rowsU5 nm2 c d sh vl zz).length = 13 := rfl
theorem lP5 {nm2 c d sh vl zz : List Nat} : (rowsP5 nm2 c d sh vl zz).length = 3 := rfl
theorem lU6 {nm2 c d sh vl zz : List Nat} : (rowsU6 nm2 c d sh vl zz).length = 15 := rfl
theorem lP6 {nm2 c d sh vl zz : List Nat} : (rowsP6 nm2 c d sh vl zz).length = 2 := rfl
theorem lU7 {nm2 c d sh vl zz : List Nat} : (rowsU7 nm2 c d sh vl zz).length = 17 := rfl
theorem lP7 {nm2 c d sh vl zz : List Nat} : (rowsP7 nm2 c d sh vl zz).length = 2 := rfl
theorem lU8 {nm2 c d sh vl zz : List Nat} : (rowsU8 nm2 c d sh vl zz).length = 19 := rfl
theorem lP8 {nm2 c d sh vl zz : List Nat} : (rowsP8 nm2 c d sh vl zz).length = 2 := rfl
theorem lU9 {nm2 c d sh vl zz : List Nat} : (rowsU9 nm2 c d sh vl zz).length = 21 := rfl
theorem lP9 {nm2 c d sh vl zz : List Nat} : (rowsP9 nm2 c d sh vl zz).length = 2 := rfl
theorem lU10 {nm2 c d sh vl zz : List Nat} : (rowsU10 nm2 c d sh vl zz).length = 22 := rfl
theorem lP10 {nm2 c d sh vl zz : List Nat} : (rowsP10 nm2 c d sh vl zz).length = 1 := rfl
theorem lU11 {nm2 c d sh vl zz : List Nat} : (rowsU11 nm2 c d sh vl zz).length = 24 := rfl
theorem lP11 {nm2 c d sh vl zz : List Nat} : (rowsP11 nm2 c d sh vl zz).length = 2 := rfl
theorem lU12 {nm2 c d sh vl zz : List Nat} : (rowsU12 nm2 c d sh vl zz).length = 26 := rfl
theorem lP12 {nm2 c d sh vl zz : List Nat} : (rowsP12 nm2 c d sh vl zz).length = 2 := rfl
def rowsF (nm2 c d sh vl zz : List Nat) : List Row := rowsU12 nm2 c d sh vl zz
def spRows (K : PySem.W.Frag) : Sp := fun vs H Q _ => ∃ (a1 a2 : Addr) (nm c d sh vl zz k1 k2 : List Nat), vs = [.ref a1, .ref a2, ss sh, ss vl] ∧ SqT K H a1 [ss nm, ss c, ss k1] ∧ SqT K H a2 [ss zz, ss d, ss k2] ∧
  nm.length ≤ 20 ∧ c.length ≤ 1 ∧ d.length ≤ 1 ∧ sh.length ≤ 20 ∧ vl.length ≤ 30 ∧ zz.length ≤ 20 ∧ ∀ R H', Ex H H' → RowsL K H' R (rowsF ([45, 45] ++ nm) c d sh vl zz) → Q (.ref R) H'
end KL

set_option Elab.async false
set_option maxRecDepth 100000
set_option maxHeartbeats 4000000
namespace K9
open PySem PySem.Spec PyProof.Rows L2 SX Evl KL
section
variable {P : Program} {w : World} {K : PySem.W.Frag} {mg : Str → Option Value} {base : Heap} {f : Addr} {fd : FuncData} {aK aA aV aL C : Addr}
abbrev s_law_rows : Stmt := top 49
theorem sc_law_rows : FnScope ["one", "other", "short", "value", "name", "c", "d", "rows"] ["one", "other", "short", "value"] (C8.fnScope s_law_rows) := C8.fnScope_by (by decide +kernel)
theorem ok_rows (F : C8.Def K mg "_law_rows" s_law_rows f fd) (b : Binds K fd ["one", "other", "short", "value"] []) (B : Blt mg) : C8.Cal P w K mg base 1 "_law_rows" (spRows K) [] :=
  C8.cal0 F b .nil sc_law_rows (fun vs H Q E h => by obtain ⟨_, _, _, _, _, _, _, _, _, _, rfl, _⟩ := h; rfl) fun cdv A outer s H vs Q E hr h => by
    have nd := sc_law_rows.nd
    obtain ⟨a1, a2, nm, c, d, sh, vl, zz, k1, k2, rfl, t1, t2, ln, lc, ld, ls, lv, lz, q⟩ := h
    refine ⟨_, (pss_cons (L2.ps_par3 (i := 4) (j := 5) (l := 6) rfl nd rfl rfl rfl (by decide) (by decide) (by decide) rfl rfl rfl (pa_cons (pe_op op_add_str pe_str (pe_ix ix_tup (pv 0) pe_int (fun _ _ => rfl))) (pa_cons (pe_ix ix_tup (pv 0) pe_int (fun _ _ => rfl)) (pa_cons (pe_ix ix_tup (pv 1) pe_int (fun _ _ => rfl)) pa_nil))) (by rfl))
      (pss_cons (ps_set (i := 7) nd rfl (by first | exact Or.inl rfl | exact Or.inr rfl) (pe_lst (pa_cons (pe_tup (pa_cons (pe_tup (pa_cons (pv 4) (pa_cons pe_str pa_nil))) (pa_cons pe_bl (pa_cons pe_bl (pa_cons pe_bl (pa_cons pe_bl pa_nil)))))) (pa_cons (pe_tup (pa_cons (pe_tup (pa_cons (pe_op op_add_str pe_str (pv 2)) (pa_cons (pv 3) pa_nil))) (pa_cons pe_bl (pa_cons pe_bl (pa_cons pe_bl (pa_cons pe_bl pa_nil)))))) pa_nil))))
      (pss_cons (ps_set (i := 7) nd rfl (by first | exact Or.inl rfl | exact Or.inr rfl) (pe_op op_cat (pv 7) (pe_lst (pa_cons (pe_tup (pa_cons (pe_tup (pa_cons (pe_op op_add_str (pe_op op_add_str (pv 4) pe_str) (pv 3)) pa_nil)) (pa_cons pe_bl (pa_cons pe_bl (pa_cons pe_bl (pa_cons pe_bl pa_nil)))))) (pa_cons (pe_tup (pa_cons (pe_tup (pa_cons (pe_op op_add_str (pe_op op_add_str pe_str (pv 2)) pe_str) pa_nil)) (pa_cons pe_bl (pa_cons pe_bl (pa_cons pe_bl (pa_cons pe_bl pa_nil)))))) pa_nil)))))
      (pss_cons (ps_set (i := 7) nd rfl (by first | exact Or.inl rfl | exact Or.inr rfl) (pe_op op_cat (pv 7) (pe_lst (pa_cons (pe_tup (pa_cons (pe_tup (pa_cons (pe_op op_add_str (pe_op op_add_str pe_str (pv 5)) pe_str) pa_nil)) (pa_cons pe_bl (pa_cons pe_bl (pa_cons pe_bl (pa_cons pe_bl pa_nil)))))) (pa_cons (pe_tup (pa_cons (pe_tup (pa_cons (pe_op op_add_str (pe_op op_add_str pe_str (pv 6)) (pv 6)) pa_nil)) (pa_cons pe_bl (pa_cons pe_bl (pa_cons pe_bl (pa_cons pe_bl pa_nil)))))) pa_nil)))))
      (pss_cons (ps_set (i := 7) nd rfl (by first | exact Or.inl rfl | exact Or.inr rfl) (pe_op op_cat (pv 7) (pe_lst (pa_cons (pe_tup (pa_cons (pe_tup (pa_cons (pe_op op_add_str (pe_op op_add_str pe_str (pv 6)) (pv 5)) (pa_cons pe_str pa_nil))) (pa_cons pe_bl (pa_cons pe_bl (pa_cons pe_bl (pa_cons pe_bl pa_nil)))))) (pa_cons (pe_tup (pa_cons (pe_tup (pa_cons pe_str (pa_cons pe_str pa_nil))) (pa_cons pe_bl (pa_cons pe_bl (pa_cons pe_bl (pa_cons pe_bl pa_nil)))))) pa_nil)))))
      (pss_cons (ps_set (i := 7) nd rfl (by first | exact Or.inl rfl | exact Or.inr rfl) (pe_op op_cat (pv 7) (pe_lst (pa_cons (pe_tup (pa_cons (pe_tup (pa_cons pe_str pa_nil)) (pa_cons pe_bl (pa_cons pe_bl (pa_cons pe_bl (pa_cons pe_bl pa_nil)))))) (pa_cons (pe_tup (pa_cons (pe_tup (pa_cons pe_str (pa_cons pe_str pa_nil))) (pa_cons pe_bl (pa_cons pe_bl (pa_cons pe_bl (pa_cons pe_bl pa_nil)))))) pa_nil)))))
      (pss_cons (ps_set (i := 7) nd rfl (by first | exact Or.inl rfl | exact Or.inr rfl) (pe_op op_cat (pv 7) (pe_lst (pa_cons (pe_tup (pa_cons (pe_tup (pa_cons pe_str pa_nil)) (pa_cons pe_bl (pa_cons pe_bl (pa_cons pe_bl (pa_cons pe_bl pa_nil)))))) (pa_cons (pe_tup (pa_cons (pe_tup (pa_cons pe_str pa_nil)) (pa_cons pe_bl (pa_cons pe_bl (pa_cons pe_bl (pa_cons pe_bl pa_nil)))))) (pa_cons (pe_tup (pa_cons (pe_tup pa_nil) (pa_cons pe_bl (pa_cons pe_bl (pa_cons pe_bl (pa_cons pe_bl pa_nil)))))) pa_nil))))))
      (pss_cons (ps_set (i := 7) nd rfl (by first | exact Or.inl rfl | exact Or.inr rfl) (pe_op op_cat (pv 7) (pe_lst (pa_cons (pe_tup (pa_cons (pe_tup (pa_cons pe_str (pa_cons (pe_op op_add_str pe_str (pv 2)) pa_nil))) (pa_cons pe_bl (pa_cons pe_bl (pa_cons pe_bl (pa_cons pe_bl pa_nil)))))) (pa_cons (pe_tup (pa_cons (pe_tup (pa_cons (pv 4) (pa_cons (pe_op op_add_str pe_str (pv 2)) pa_nil))) (pa_cons pe_bl (pa_cons pe_bl (pa_cons pe_bl (pa_cons pe_bl pa_nil)))))) pa_nil)))))
      (pss_cons (ps_set (i := 7) nd rfl (by first | exact Or.inl rfl | exact Or.inr rfl) (pe_op op_cat (pv 7) (pe_lst (pa_cons (pe_tup (pa_cons (pe_tup (pa_cons (pv 4) (pa_cons pe_str (pa_cons pe_str pa_nil)))) (pa_cons pe_bl (pa_cons pe_bl (pa_cons pe_bl (pa_cons pe_bl pa_nil)))))) (pa_cons (pe_tup (pa_cons (pe_tup (pa_cons (pv 4) pa_nil)) (pa_cons pe_bl (pa_cons pe_bl (pa_cons pe_bl (pa_cons pe_bl pa_nil)))))) pa_nil)))))
      (pss_cons (ps_set (i := 7) nd rfl (by first | exact Or.inl rfl | exact Or.inr rfl) (pe_op op_cat (pv 7) (pe_lst (pa_cons (pe_tup (pa_cons (pe_tup (pa_cons pe_str (pa_cons (pe_op op_add_str (pe_op op_add_str pe_str (pv 2)) pe_str) pa_nil))) (pa_cons pe_bl (pa_cons pe_bl (pa_cons pe_bl (pa_cons pe_bl pa_nil)))))) (pa_cons (pe_tup (pa_cons (pe_tup (pa_cons pe_str (pa_cons (pe_op op_add_str (pv 4) pe_str) pa_nil))) (pa_cons pe_bl (pa_cons pe_bl (pa_cons pe_bl (pa_cons pe_bl pa_nil)))))) pa_nil)))))
      (pss_cons (ps_set (i := 7) nd rfl (by first | exact Or.inl rfl | exact Or.inr rfl) (pe_op op_cat (pv 7) (pe_lst (pa_cons (pe_tup (pa_cons (pe_tup (pa_cons (pe_op op_add_str (pe_op op_add_str (pe_op op_add_str pe_str (pv 5)) pe_str) (pv 2)) pa_nil)) (pa_cons pe_bl (pa_cons pe_bl (pa_cons pe_bl (pa_cons pe_bl pa_nil)))))) (pa_cons (pe_tup (pa_cons (pe_tup (pa_cons (pe_op op_add_str pe_str (pe_ix ix_tup (pv 1) pe_int (fun _ _ => rfl))) pa_nil)) (pa_cons pe_bl (pa_cons pe_bl (pa_cons pe_bl (pa_cons pe_bl pa_nil)))))) pa_nil)))))
      (pss_cons (ps_set (i := 7) nd rfl (by first | exact Or.inl rfl | exact Or.inr rfl) (pe_op op_cat (pv 7) (pe_lst (pa_cons (pe_tup (pa_cons (pe_tup (pa_cons (pv 4) (pa_cons (pv 3) (pa_cons (pe_op op_add_str pe_str (pv 2)) (pa_cons (pv 3) pa_nil))))) (pa_cons pe_bl (pa_cons pe_bl (pa_cons pe_bl (pa_cons pe_bl pa_nil)))))) pa_nil))))
      (pss_cons (ps_set (i := 7) nd rfl (by first | exact Or.inl rfl | exact Or.inr rfl) (pe_op op_cat (pv 7) (pe_lst (pa_cons (pe_tup (pa_cons (pe_tup (pa_cons pe_str pa_nil)) (pa_cons pe_bl (pa_cons pe_bl (pa_cons pe_bl (pa_cons pe_bl pa_nil)))))) (pa_cons (pe_tup (pa_cons (pe_tup (pa_cons (pe_op op_add_str (pe_op op_add_str pe_str (pv 5)) (pv 5)) (pa_cons (pe_op op_add_str pe_str (pv 6)) pa_nil))) (pa_cons pe_bl (pa_cons pe_bl (pa_cons pe_bl (pa_cons pe_bl pa_nil)))))) pa_nil)))))
      (pss_one (ps_ret (pe_op op_cat (pv 7) (pe_lst (pa_cons (pe_tup (pa_cons (pe_tup (pa_cons pe_str (pa_cons pe_str (pa_cons (pe_op op_add_str pe_str (pv 3)) pa_nil)))) (pa_cons pe_bl (pa_cons pe_bl (pa_cons pe_bl (pa_cons pe_bl pa_nil)))))) (pa_cons (pe_tup (pa_cons (pe_tup (pa_cons (pe_op op_add_str pe_str (pv 6)) (pa_cons pe_str (pa_cons pe_str pa_nil)))) (pa_cons pe_bl (pa_cons pe_bl (pa_cons pe_bl (pa_cons pe_bl pa_nil)))))) pa_nil))))))))))))))))))), ?_⟩
    refine ⟨_, rfl, a1, _, 0, _, rfl, rfl, t1, atI_nat (j := 0) rfl, _, _, rfl, rfl, by rw [lit_dd, S_len, S_len]; exact sz_of (by show 2 + nm.length ≤ 100000; omega), _, rfl, a1, _, 1, _, rfl, rfl, t1, atI_nat (j := 1) rfl, _, rfl, a2, _, 1, _, rfl, rfl, t2, atI_nat (j := 1) rfl, _, _, _, rfl, ?_⟩
    rw [lit_dd, S_cat]
    obtain ⟨nm2, hnm2⟩ : ∃ nm2, nm2 = [45, 45] ++ nm := ⟨_, rfl⟩
    rw [← hnm2] at q ⊢
    have ln2 : nm2.length ≤ 22 := by rw [hnm2, List.length_append]; show 2 + nm.length ≤ 22; omega
    dsimp only
    refine seq_rows (K := K) (rs := rowsU0 nm2 c d sh vl zz) (fun R => [some (.ref a1), some (.ref a2), some (ss sh), some (ss vl), some (ss nm2), some (ss c), some (ss d), some (.ref R)]) ?_ (fun R0 G0 f0 r0 => ?_) (fun _ => rfl)
    · exact (rl_lst (rs_cons (ev_row (r := (([nm2, [45, 53]], [true, true, true, true]))) (ea_cons (ev_var rfl) (ea_cons (ev_lit (by decide +kernel)) ea_nil)) (ea_cons ev_c (ea_cons ev_c (ea_cons ev_c (ea_cons ev_c ea_nil)))) (by show 2 ≤ 100; decide))
        (rs_cons (ev_row (r := (([([45, 45] ++ sh), vl], [false, false, false, false]))) (ea_cons (ev_cat (ev_lit (by decide +kernel)) (ev_var rfl) (by simp only [List.length_append, List.length_cons, List.length_nil]; omega)) (ea_cons (ev_var rfl) ea_nil)) (ea_cons ev_c (ea_cons ev_c (ea_cons ev_c (ea_cons ev_c ea_nil)))) (by show 2 ≤ 100; decide))
        rs_nil)) (by show 2 ≤ 100; decide))
    have y0 : Ex H G0 := f0
    have hOt := ex_t y0 t2
    refine seq_rows (K := K) (rs := rowsU1 nm2 c d sh vl zz) (fun R => [some (.ref a1), some (.ref a2), some (ss sh), some (ss vl), some (ss nm2), some (ss c), some (ss d), some (.ref R)]) ?_ (fun R1 G1 f1 r1 => ?_) (fun _ => rfl)
    · exact rl_cat (rs := rowsU0 nm2 c d sh vl zz) (rs2 := rowsP1 nm2 c d sh vl zz) (rl_var rfl r0) (rl_lst (rs_cons (ev_row (r := (([((nm2 ++ [61]) ++ vl)], [true, true, true, true]))) (ea_cons (ev_cat (ev_cat (ev_var rfl) (ev_lit (by decide +kernel)) (by simp only [List.length_append, List.length_cons, List.length_nil]; omega)) (ev_var rfl) (by simp only [List.length_append, List.length_cons, List.length_nil]; omega)) ea_nil) (ea_cons ev_c (ea_cons ev_c (ea_cons ev_c (ea_cons ev_c ea_nil)))) (by show 1 ≤ 100; decide))
        (rs_cons (ev_row (r := (([(([45, 45] ++ sh) ++ [61])], [false, false, false, false]))) (ea_cons (ev_cat (ev_cat (ev_lit (by decide +kernel)) (ev_var rfl) (by simp only [List.length_append, List.length_cons, List.length_nil]; omega)) (ev_lit (by decide +kernel)) (by simp only [List.length_append, List.length_cons, List.length_nil]; omega)) ea_nil) (ea_cons ev_c (ea_cons ev_c (ea_cons ev_c (ea_cons ev_c ea_nil)))) (by show 1 ≤ 100; decide))
        rs_nil)) (by show 2 ≤ 100; decide)) (by rw [lU0, lP1]; decide)
    have y1 : Ex H G1 := y0.trans f1
    have hOt := ex_t y1 t2
    refine seq_rows (K := K) (rs := rowsU2 nm2 c d sh vl zz) (fun R => [some (.ref a1), some (.ref a2), some (ss sh), some (ss vl), some (ss nm2), some (ss c), some (ss d), some (.ref R)]) ?_ (fun R2 G2 f2 r2 => ?_) (fun _ => rfl)
    · exact rl_cat (rs := rowsU1 nm2 c d sh vl zz) (rs2 := rowsP2 nm2 c d sh vl zz) (rl_var rfl r1) (rl_lst (rs_cons (ev_row (r := (([(([45] ++ c) ++ [118])], [true, true, true, true]))) (ea_cons (ev_cat (ev_cat (ev_lit (by decide +kernel)) (ev_var rfl) (by simp only [List.length_append, List.length_cons, List.length_nil]; omega)) (ev_lit (by decide +kernel)) (by simp only [List.length_append, List.length_cons, List.length_nil]; omega)) ea_nil) (ea_cons ev_c (ea_cons ev_c (ea_cons ev_c (ea_cons ev_c ea_nil)))) (by show 1 ≤ 100; decide))
        (rs_cons (ev_row (r := (([(([45] ++ d) ++ d)], [true, true, true, true]))) (ea_cons (ev_cat (ev_cat (ev_lit (by decide +kernel)) (ev_var rfl) (by simp only [List.length_append, List.length_cons, List.length_nil]; omega)) (ev_var rfl) (by simp only [List.length_append, List.length_cons, List.length_nil]; omega)) ea_nil) (ea_cons ev_c (ea_cons ev_c (ea_cons ev_c (ea_cons ev_c ea_nil)))) (by show 1 ≤ 100; decide))
        rs_nil)) (by show 2 ≤ 100; decide)) (by rw [lU1, lP2]; decide)
    have y2 : Ex H G2 := y1.trans f2
    have hOt := ex_t y2 t2
    refine seq_rows (K := K) (rs := rowsU3 nm2 c d sh vl zz) (fun R => [some (.ref a1), some (.ref a2), some (ss sh), some (ss vl), some (ss nm2), some (ss c), some (ss d), some (.ref R)]) ?_ (fun R3 G3 f3 r3 => ?_) (fun _ => rfl)
    · exact rl_cat (rs := rowsU2 nm2 c d sh vl zz) (rs2 := rowsP3 nm2 c d sh vl zz) (rl_var rfl r2) (rl_lst (rs_cons (ev_row (r := (([(([45] ++ d) ++ c), [45, 53]], [true, true, true, true]))) (ea_cons (ev_cat (ev_cat (ev_lit (by decide +kernel)) (ev_var rfl) (by simp only [List.length_append, List.length_cons, List.length_nil]; omega)) (ev_var rfl) (by simp only [List.length_append, List.length_cons, List.length_nil]; omega)) (ea_cons (ev_lit (by decide +kernel)) ea_nil)) (ea_cons ev_c (ea_cons ev_c (ea_cons ev_c (ea_cons ev_c ea_nil)))) (by show 2 ≤ 100; decide))
        (rs_cons (ev_row (r := (([[119], [45, 53]], [false, true, false, false]))) (ea_cons (ev_lit (by decide +kernel)) (ea_cons (ev_lit (by decide +kernel)) ea_nil)) (ea_cons ev_c (ea_cons ev_c (ea_cons ev_c (ea_cons ev_c ea_nil)))) (by show 2 ≤ 100; decide))
        rs_nil)) (by show 2 ≤ 100; decide)) (by rw [lU2, lP3]; decide)
    have y3 : Ex H G3 := y2.trans f3
    have hOt := ex_t y3 t2
    refine seq_rows (K := K) (rs := rowsU4 nm2 c d sh vl zz) (fun R => [some (.ref a1), some (.ref a2), some (ss sh), some (ss vl), some (ss nm2), some (ss c), some (ss d), some (.ref R)]) ?_ (fun R4 G4 f4 r4 => ?_) (fun _ => rfl)
    · exact rl_cat (rs := rowsU3 nm2 c d sh vl zz) (rs2 := rowsP4 nm2 c d sh vl zz) (rl_var rfl r3) (rl_lst (rs_cons (ev_row (r := (([[45, 53]], [false, false, false, false]))) (ea_cons (ev_lit (by decide +kernel)) ea_nil) (ea_cons ev_c (ea_cons ev_c (ea_cons ev_c (ea_cons ev_c ea_nil)))) (by show 1 ≤ 100; decide))
        (rs_cons (ev_row (r := (([[45, 45], [45, 53]], [true, true, true, true]))) (ea_cons (ev_lit (by decide +kernel)) (ea_cons (ev_lit (by decide +kernel)) ea_nil)) (ea_cons ev_c (ea_cons ev_c (ea_cons ev_c (ea_cons ev_c ea_nil)))) (by show 2 ≤ 100; decide))
        rs_nil)) (by show 2 ≤ 100; decide)) (by rw [lU3, lP4]; decide)
    have y4 : Ex H G4 := y3.trans f4
    have hOt := ex_t y4 t2
    refine seq_rows (K := K) (rs := rowsU5 nm2 c d sh vl zz) (fun R => [some (.ref a1), some (.ref a2), some (ss sh), some (ss vl), some (ss nm2), some (ss c), some (ss d), some (.ref R)]) ?_ (fun R5 G5 f5 r5 => ?_) (fun _ => rfl)
    · exact rl_cat (rs := rowsU4 nm2 c d sh vl zz) (rs2 := rowsP5 nm2 c d sh vl zz) (rl_var rfl r4) (rl_lst (rs_cons (ev_row (r := (([[45]], [true, true, true, true]))) (ea_cons (ev_lit (by decide +kernel)) ea_nil) (ea_cons ev_c (ea_cons ev_c (ea_cons ev_c (ea_cons ev_c ea_nil)))) (by show 1 ≤ 100; decide))
        (rs_cons (ev_row (r := (([[]], [true, true, true, true]))) (ea_cons (ev_lit (by decide +kernel)) ea_nil) (ea_cons ev_c (ea_cons ev_c (ea_cons ev_c (ea_cons ev_c ea_nil)))) (by show 1 ≤ 100; decide))
        (rs_cons (ev_row (r := (([], [true, true, true, true]))) ea_nil (ea_cons ev_c (ea_cons ev_c (ea_cons ev_c (ea_cons ev_c ea_nil)))) (by show 0 ≤ 100; decide))
        rs_nil))) (by show 3 ≤ 100; decide)) (by rw [lU4, lP5]; decide)
    have y5 : Ex H G5 := y4.trans f5
    have hOt := ex_t y5 t2
    refine seq_rows (K := K) (rs := rowsU6 nm2 c d sh vl zz) (fun R => [some (.ref a1), some (.ref a2), some (ss sh), some (ss vl), some (ss nm2), some (ss c), some (ss d), some (.ref R)]) ?_ (fun R6 G6 f6 r6 => ?_) (fun _ => rfl)
    · exact rl_cat (rs := rowsU5 nm2 c d sh vl zz) (rs2 := rowsP6 nm2 c d sh vl zz) (rl_var rfl r5) (rl_lst (rs_cons (ev_row (r := (([[45, 45], ([45, 45] ++ sh)], [true, true, true, true]))) (ea_cons (ev_lit (by decide +kernel)) (ea_cons (ev_cat (ev_lit (by decide +kernel)) (ev_var rfl) (by simp only [List.length_append, List.length_cons, List.length_nil]; omega)) ea_nil)) (ea_cons ev_c (ea_cons ev_c (ea_cons ev_c (ea_cons ev_c ea_nil)))) (by show 2 ≤ 100; decide))
        (rs_cons (ev_row (r := (([nm2, ([45, 45] ++ sh)], [true, true, true, true]))) (ea_cons (ev_var rfl) (ea_cons (ev_cat (ev_lit (by decide +kernel)) (ev_var rfl) (by simp only [List.length_append, List.length_cons, List.length_nil]; omega)) ea_nil)) (ea_cons ev_c (ea_cons ev_c (ea_cons ev_c (ea_cons ev_c ea_nil)))) (by show 2 ≤ 100; decide))
        rs_nil)) (by show 2 ≤ 100; decide)) (by rw [lU5, lP6]; decide)
    have y6 : Ex H G6 := y5.trans f6
    have hOt := ex_t y6 t2
    refine seq_rows (K := K) (rs := rowsU7 nm2 c d sh vl zz) (fun R => [some (.ref a1), some (.ref a2), some (ss sh), some (ss vl), some (ss nm2), some (ss c), some (ss d), some (.ref R)]) ?_ (fun R7 G7 f7 r7 => ?_) (fun _ => rfl)
    · exact rl_cat (rs := rowsU6 nm2 c d sh vl zz) (rs2 := rowsP7 nm2 c d sh vl zz) (rl_var rfl r6) (rl_lst (rs_cons (ev_row (r := (([nm2, [45, 45], [45, 53]], [false, false, false, false]))) (ea_cons (ev_var rfl) (ea_cons (ev_lit (by decide +kernel)) (ea_cons (ev_lit (by decide +kernel)) ea_nil))) (ea_cons ev_c (ea_cons ev_c (ea_cons ev_c (ea_cons ev_c ea_nil)))) (by show 3 ≤ 100; decide))
        (rs_cons (ev_row (r := (([nm2], [false, false, false, false]))) (ea_cons (ev_var rfl) ea_nil) (ea_cons ev_c (ea_cons ev_c (ea_cons ev_c (ea_cons ev_c ea_nil)))) (by show 1 ≤ 100; decide))
        rs_nil)) (by show 2 ≤ 100; decide)) (by rw [lU6, lP7]; decide)
    have y7 : Ex H G7 := y6.trans f7
    have hOt := ex_t y7 t2
    refine seq_rows (K := K) (rs := rowsU8 nm2 c d sh vl zz) (fun R => [some (.ref a1), some (.ref a2), some (ss sh), some (ss vl), some (ss nm2), some (ss c), some (ss d), some (.ref R)]) ?_ (fun R8 G8 f8 r8 => ?_) (fun _ => rfl)
    · exact rl_cat (rs := rowsU7 nm2 c d sh vl zz) (rs2 := rowsP8 nm2 c d sh vl zz) (rl_var rfl r7) (rl_lst (rs_cons (ev_row (r := (([[119], (([45, 45] ++ sh) ++ [61])], [false, true, false, false]))) (ea_cons (ev_lit (by decide +kernel)) (ea_cons (ev_cat (ev_cat (ev_lit (by decide +kernel)) (ev_var rfl) (by simp only [List.length_append, List.length_cons, List.length_nil]; omega)) (ev_lit (by decide +kernel)) (by simp only [List.length_append, List.length_cons, List.length_nil]; omega)) ea_nil)) (ea_cons ev_c (ea_cons ev_c (ea_cons ev_c (ea_cons ev_c ea_nil)))) (by show 2 ≤ 100; decide))
        (rs_cons (ev_row (r := (([[119], (nm2 ++ [61])], [true, true, true, true]))) (ea_cons (ev_lit (by decide +kernel)) (ea_cons (ev_cat (ev_var rfl) (ev_lit (by decide +kernel)) (by simp only [List.length_append, List.length_cons, List.length_nil]; omega)) ea_nil)) (ea_cons ev_c (ea_cons ev_c (ea_cons ev_c (ea_cons ev_c ea_nil)))) (by show 2 ≤ 100; decide))
        rs_nil)) (by show 2 ≤ 100; decide)) (by rw [lU7, lP8]; decide)
    have y8 : Ex H G8 := y7.trans f8
    have hOt := ex_t y8 t2
    refine seq_rows (K := K) (rs := rowsU9 nm2 c d sh vl zz) (fun R => [some (.ref a1), some (.ref a2), some (ss sh), some (ss vl), some (ss nm2), some (ss c), some (ss d), some (.ref R)]) ?_ (fun R9 G9 f9 r9 => ?_) (fun _ => rfl)
    · exact rl_cat (rs := rowsU8 nm2 c d sh vl zz) (rs2 := rowsP9 nm2 c d sh vl zz) (rl_var rfl r8) (rl_lst (rs_cons (ev_row (r := (([((([45] ++ c) ++ [45, 45]) ++ sh)], [true, true, true, true]))) (ea_cons (ev_cat (ev_cat (ev_cat (ev_lit (by decide +kernel)) (ev_var rfl) (by simp only [List.length_append, List.length_cons, List.length_nil]; omega)) (ev_lit (by decide +kernel)) (by simp only [List.length_append, List.length_cons, List.length_nil]; omega)) (ev_var rfl) (by simp only [List.length_append, List.length_cons, List.length_nil]; omega)) ea_nil) (ea_cons ev_c (ea_cons ev_c (ea_cons ev_c (ea_cons ev_c ea_nil)))) (by show 1 ≤ 100; decide))
        (rs_cons (ev_row (r := (([([45, 45] ++ zz)], [true, true, true, true]))) (ea_cons (ev_cat (ev_lit (by decide +kernel)) (ev_is (ev_op (ev_var rfl) ev_c (rv_ixT hOt (atI_nat (j := 0) rfl))) rfl) (by simp only [List.length_append, List.length_cons, List.length_nil]; omega)) ea_nil) (ea_cons ev_c (ea_cons ev_c (ea_cons ev_c (ea_cons ev_c ea_nil)))) (by show 1 ≤ 100; decide))
        rs_nil)) (by show 2 ≤ 100; decide)) (by rw [lU8, lP9]; decide)
    have y9 : Ex H G9 := y8.trans f9
    have hOt := ex_t y9 t2
    refine seq_rows (K := K) (rs := rowsU10 nm2 c d sh vl zz) (fun R => [some (.ref a1), some (.ref a2), some (ss sh), some (ss vl), some (ss nm2), some (ss c), some (ss d), some (.ref R)]) ?_ (fun R10 G10 f10 r10 => ?_) (fun _ => rfl)
    · exact rl_cat (rs := rowsU9 nm2 c d sh vl zz) (rs2 := rowsP10 nm2 c d sh vl zz) (rl_var rfl r9) (rl_lst (rs_cons (ev_row (r := (([nm2, vl, ([45, 45] ++ sh), vl], [false, false, false, false]))) (ea_cons (ev_var rfl) (ea_cons (ev_var rfl) (ea_cons (ev_cat (ev_lit (by decide +kernel)) (ev_var rfl) (by simp only [List.length_append, List.length_cons, List.length_nil]; omega)) (ea_cons (ev_var rfl) ea_nil)))) (ea_cons ev_c (ea_cons ev_c (ea_cons ev_c (ea_cons ev_c ea_nil)))) (by show 4 ≤ 100; decide))
        rs_nil) (by show 1 ≤ 100; decide)) (by rw [lU9, lP10]; decide)
    have y10 : Ex H G10 := y9.trans f10
    have hOt := ex_t y10 t2
    refine seq_rows (K := K) (rs := rowsU11 nm2 c d sh vl zz) (fun R => [some (.ref a1), some (.ref a2), some (ss sh), some (ss vl), some (ss nm2), some (ss c), some (ss d), some (.ref R)]) ?_ (fun R11 G11 f11 r11 => ?_) (fun _ => rfl)
    · exact rl_cat (rs := rowsU10 nm2 c d sh vl zz) (rs2 := rowsP11 nm2 c d sh vl zz) (rl_var rfl r10) (rl_lst (rs_cons (ev_row (r := (([[45, 45, 61]], [false, false, false, false]))) (ea_cons (ev_lit (by decide +kernel)) ea_nil) (ea_cons ev_c (ea_cons ev_c (ea_cons ev_c (ea_cons ev_c ea_nil)))) (by show 1 ≤ 100; decide))
        (rs_cons (ev_row (r := (([(([45] ++ c) ++ c), ([45] ++ d)], [true, true, true, true]))) (ea_cons (ev_cat (ev_cat (ev_lit (by decide +kernel)) (ev_var rfl) (by simp only [List.length_append, List.length_cons, List.length_nil]; omega)) (ev_var rfl) (by simp only [List.length_append, List.length_cons, List.length_nil]; omega)) (ea_cons (ev_cat (ev_lit (by decide +kernel)) (ev_var rfl) (by simp only [List.length_append, List.length_cons, List.length_nil]; omega)) ea_nil)) (ea_cons ev_c (ea_cons ev_c (ea_cons ev_c (ea_cons ev_c ea_nil)))) (by show 2 ≤ 100; decide))
        rs_nil)) (by show 2 ≤ 100; decide)) (by rw [lU10, lP11]; decide)
    have y11 : Ex H G11 := y10.trans f11
    have hOt := ex_t y11 t2
    refine ret_rows (K := K) (rs := rowsU12 nm2 c d sh vl zz) ?_ fun R12 G12 f12 r12 => ?_
    · exact rl_cat (rs := rowsU11 nm2 c d sh vl zz) (rs2 := rowsP12 nm2 c d sh vl zz) (rl_var rfl r11) (rl_lst (rs_cons (ev_row (r := (([[45, 45], [45, 45], ([45] ++ vl)], [true, true, true, true]))) (ea_cons (ev_lit (by decide +kernel)) (ea_cons (ev_lit (by decide +kernel)) (ea_cons (ev_cat (ev_lit (by decide +kernel)) (ev_var rfl) (by simp only [List.length_append, List.length_cons, List.length_nil]; omega)) ea_nil))) (ea_cons ev_c (ea_cons ev_c (ea_cons ev_c (ea_cons ev_c ea_nil)))) (by show 3 ≤ 100; decide))
        (rs_cons (ev_row (r := (([([45] ++ d), [45], [46]], [true, true, true, true]))) (ea_cons (ev_cat (ev_lit (by decide +kernel)) (ev_var rfl) (by simp only [List.length_append, List.length_cons, List.length_nil]; omega)) (ea_cons (ev_lit (by decide +kernel)) (ea_cons (ev_lit (by decide +kernel)) ea_nil))) (ea_cons ev_c (ea_cons ev_c (ea_cons ev_c (ea_cons ev_c ea_nil)))) (by show 3 ≤ 100; decide))
        rs_nil)) (by show 2 ≤ 100; decide)) (by rw [lU11, lP12]; decide)
    have y12 : Ex H G12 := y11.trans f12
    have r13 : RowsL K G12 R12 (rowsF nm2 c d sh vl zz) := by unfold rowsF; exact r12
    exact q _ _ y12 r13
end
end K9

set_option Elab.async false
set_option maxRecDepth 100000
set_option maxHeartbeats 4000000
namespace KL
open PySem PySem.Spec PyProof.Rows L2 SX Evl
section
variable {X : Cx}
theorem call_repB : CallR X (.builtin "repr") (fun xs H Q => ∃ b : Bool, xs = [.bl b] ∧ Q (.str (if b then "True" else "False")) H) := by
  intro pins s σ H xs us Q inv rel h
  obtain ⟨b, rfl, q⟩ := h
  obtain ⟨u, rfl, ru⟩ := vals1 rel
  cases (show u = Value.bool b from ru)
  exact PySem.P.repr_of_bool ⟨.str (if b then "True" else "False"), H, inv.tok _, ⟨_, rfl⟩, q⟩
end
/-- what the law draws -/
structure Good (nm sh vl : List Nat) (c d : Nat) : Prop where
  n2 : 2 ≤ nm.length
  n12 : nm.length ≤ 12
  nc : ∀ x ∈ nm, 97 ≤ x ∧ x ≤ 121
  sh_ : ∃ k, 1 ≤ k ∧ k < nm.length ∧ sh = nm.take k
  c_ : 97 ≤ c ∧ c ≤ 121
  d_ : 97 ≤ d ∧ d ≤ 121
  cd : c ≠ d
  vl_ : vl = [118] ∨ vl = [] ∨ vl = [45, 53] ∨ vl = [45, 45] ++ sh ∨ vl = [97, 61, 98]
abbrev zz : List Nat := [122, 122]
def grF (nm : List Nat) (c d : Nat) (s x m : Bool) : Gr := ⟨[⟨nm, [c], kLast⟩, ⟨zz, [d], kCount⟩], [([105, 110], aMany)], s, x, m⟩
def gr3 (nm : List Nat) (c d : Nat) : Gr := ⟨[⟨nm, [c], kLast⟩, ⟨zz, [d], kCount⟩, ⟨[122, 121], [53], kFlag⟩], [([105, 110], aMany)], true, true, true⟩
def gr0 (nm : List Nat) (c d : Nat) : Gr := ⟨[⟨nm, [c], kLast⟩, ⟨zz, [d], kCount⟩], [], true, true, true⟩
structure Ctx (K : PySem.W.Frag) (H : Hp) (nm : List Nat) (c d : Nat) (a1 a2 ap : Addr) : Prop where
  t1 : SqT K H a1 [ss nm, ss [c], ss kLast]
  t2 : SqT K H a2 [ss zz, ss [d], ss kCount]
  tp : ∃ p1, SqT K H ap [.ref p1] ∧ SqT K H p1 [ss [105, 110], ss aMany]
theorem Ctx.mono {K : PySem.W.Frag} {H H' : Hp} {nm : List Nat} {c d : Nat} {a1 a2 ap : Addr} (h : Ctx K H nm c d a1 a2 ap) (e : Ex H H') : Ctx K H' nm c d a1 a2 ap :=
  ⟨ex_t e h.t1, ex_t e h.t2, let ⟨p, x, y⟩ := h.tp; ⟨p, ex_t e x, ex_t e y⟩⟩
theorem StAt.mono {H H' : Hp} {st dL : Addr} {n : Int} (h : StAt H st dL n) (e : Ex H H') : StAt H' st dL n := by
  obtain ⟨⟨dC, cs, ls, e1, e2, e3, r⟩, n0⟩ := h
  exact ⟨⟨dC, cs, ls, e _ _ e1, e _ _ e2, e _ _ e3, r⟩, n0⟩
abbrev lt25 : Str := "abcdefghijklmnopqrstuvwxy"
def lts : List Nat := (List.range 25).map (97 + ·)
theorem lit25 : lt25 = S lts := by decide +kernel
theorem lt_at {r : Int} (h0 : 0 ≤ r) (h1 : r < 25) : ∃ x : Nat, atI lt25.cps.toList r = some x ∧ (x : Int) = 97 + r := by
  obtain ⟨j, rfl⟩ : ∃ j : Nat, r = (j : Int) := ⟨r.toNat, by omega⟩
  refine ⟨97 + j, ?_, by omega⟩
  have hj : j < 25 := by omega
  rw [lit25]
  refine atI_nat ?_
  show lts[j]? = some (97 + j)
  unfold lts
  rw [List.getElem?_map, List.getElem?_range hj]
  rfl
theorem join1 : ∀ l : List Nat, TL.joinL [] (l.map fun c => [c]) = l
  | [] => rfl
  | [_] => rfl
  | c :: d :: r => by
    show [c] ++ ([] ++ TL.joinL [] ((d :: r).map fun c => [c])) = c :: d :: r
    rw [join1 (d :: r)]
    rfl
theorem join_S1 (l : List Nat) : Txt.join ("" : Str) (l.map fun c => S [c]) = S l := by
  rw [lit_nil, show (l.map fun c => S [c]) = (l.map fun c => [c]).map S by rw [List.map_map]; rfl, join_S, join1]
theorem sum1 : ∀ l : List Nat, ((l.map fun c => S [c]).map (·.length)).sum = l.length
  | [] => rfl
  | c :: r => by
    rw [List.map_cons, List.map_cons, List.sum_cons, sum1 r, List.length_cons]
    show 1 + _ = _ + 1
    omega
theorem Chg.keep {st dL : Addr} {H H' : Hp} (c : Chg st dL H H') {p : Addr} {o : HO} (h : H p = some o) (n1 : p ≠ st) (n2 : p ≠ dL) : H' p = some o := c p o h n1 n2
theorem lst_ne {H : Hp} {a b : Addr} {l : List Nat} {cs : List Int} (h1 : H a = some (.lst (l.map fun c => ss [c]))) (h2 : H b = some (.lst (cs.map V.int))) (h : 0 < cs.length) : a ≠ b := by
  intro e
  subst e
  rw [h1] at h2
  have h3 := HO.lst.inj (Option.some.inj h2)
  cases cs with
  | nil => simp at h
  | cons c r => cases l <;> simp at h3
/-- between two of the law's pieces -/
def Mid (K : PySem.W.Frag) (st dL : Addr) (n : Int) (σ : L2.St) (H : Hp) : Prop :=
  ∃ x0 x3 x6 x13 x14 x15 x16 x17 x18 x19 x20 x21 nm sh vl c d a1 a2 ap, σ = [x0, some (.ref st), some (.str lt25), x3, some (ss nm), some (ss sh), x6, some (ss vl), some (ss [c]), some (ss [d]), some (.ref a1), some (.ref a2), some (.ref ap), x13, x14, x15, x16, x17, x18, x19, x20, x21] ∧
    StAt H st dL n ∧ Ctx K H nm c d a1 a2 ap ∧ Good nm sh vl c d
def spLaw09 (K : PySem.W.Frag) : Sp := fun vs H Q _ => ∃ (a : Addr) (ns : List Int), vs = [.ref a] ∧ SqL K H a (ns.map V.int) ∧ ns.length ≤ 63 ∧ ∀ H', Q (.bl true) H'
theorem dp_bools (K : PySem.W.Frag) (H : Hp) : ∀ bs : List Bool, DpAll K H (bs.map V.bl) (bs.map PyData.bool)
  | [] => .nil
  | b :: bs => .cons (.bl b) (dp_bools K H bs)
theorem show4 : ∀ b1 b2 b3 b4 : Bool, (PyData.list ([b1, b2, b3, b4].map PyData.bool)).showable = true ∧ (PyData.list ([b1, b2, b3, b4].map PyData.bool)).depth ≤ 60 ∧ (PyData.list ([b1, b2, b3, b4].map PyData.bool)).hasDict = false ∧ (PyData.list ([b1, b2, b3, b4].map PyData.bool)).shown.length ≤ sizeLine := by
  decide +kernel
theorem lit_zz : ("zz" : Str) = S zz := by decide +kernel
theorem lit_in : ("in" : Str) = S [105, 110] := by decide +kernel
theorem lit_zy : ("zy" : Str) = S [122, 121] := by decide +kernel
theorem lit_5 : ("5" : Str) = S [53] := by decide +kernel
/-! ### the grammars in the heap -/
theorem Ctx.gr {K : PySem.W.Frag} {H : Hp} {nm : List Nat} {c d : Nat} {a1 a2 ap q1 q2 am : Addr} {s x m : Bool} (h : Ctx K H nm c d a1 a2 ap) (h1 : SqT K H q1 [.ref a1, .ref a2]) (h2 : SqT K H q2 [.ref q1, .ref ap, .ref am]) (h3 : SqT K H am [.bl s, .bl x, .bl m]) :
    GrAt K H q2 (grF nm c d s x m) := by
  obtain ⟨p1, y1, y2⟩ := h.tp
  exact ⟨q1, ap, am, h2, ⟨[a1, a2], h1, .cons h.t1 (.cons h.t2 .nil)⟩, ⟨[p1], y1, .cons y2 .nil⟩, h3⟩
theorem Ctx.gr3 {K : PySem.W.Frag} {H : Hp} {nm : List Nat} {c d : Nat} {a1 a2 a3 ap q1 q2 am : Addr} (h : Ctx K H nm c d a1 a2 ap) (h4 : SqT K H a3 [ss [122, 121], ss [53], ss kFlag]) (h1 : SqT K H q1 [.ref a1, .ref a2, .ref a3]) (h2 : SqT K H q2 [.ref q1, .ref ap, .ref am]) (h3 : SqT K H am [.bl true, .bl true, .bl true]) :
    GrAt K H q2 (gr3 nm c d) := by
  obtain ⟨p1, y1, y2⟩ := h.tp
  exact ⟨q1, ap, am, h2, ⟨[a1, a2, a3], h1, .cons h.t1 (.cons h.t2 (.cons h4 .nil))⟩, ⟨[p1], y1, .cons y2 .nil⟩, h3⟩
theorem Ctx.gr0 {K : PySem.W.Frag} {H : Hp} {nm : List Nat} {c d : Nat} {a1 a2 ap p0 q1 q2 am : Addr} (h : Ctx K H nm c d a1 a2 ap) (h1 : SqT K H q1 [.ref a1, .ref a2]) (h2 : SqT K H q2 [.ref q1, .ref p0, .ref am]) (h0 : SqT K H p0 []) (h3 : SqT K H am [.bl true, .bl true, .bl true]) :
    GrAt K H q2 (gr0 nm c d) := ⟨q1, p0, am, h2, ⟨[a1, a2], h1, .cons h.t1 (.cons h.t2 .nil)⟩, ⟨[], h0, .nil⟩, h3⟩
def rows3 : List Row := [([[45, 53]], [true]), ([[45, 53, 53], [119]], [true]), ([[45, 55]], [false]), ([[45, 45], [45, 53]], [true]), ([[119], [45, 53]], [true]), ([[119], [45, 53, 55]], [false])]
def rows0 (d : Nat) : List Row := [([], [true]), ([[119]], [false]), ([[45, 53]], [false]), ([[45, d]], [true])]
end KL

set_option Elab.async false
set_option maxRecDepth 100000
set_option maxHeartbeats 4000000
set_option linter.all false
set_option linter.unusedSimpArgs false
namespace KL
open PySem PySem.Spec PyProof.Rows L2 SX Evl
theorem cut_none {l : List Nat} (h : 61 ∉ l) : cutEq l = (l, none) := by
  unfold cutEq
  rw [SX.par_head_none h]
theorem cut_some {l : List Nat} (r : List Nat) (h : 61 ∉ l) : cutEq (l ++ [61] ++ r) = (l, some r) := by
  unfold cutEq
  rw [List.append_assoc, SX.par_head (sep := []) r h]
theorem mem_az {x : Nat} (h : 97 ≤ x ∧ x ≤ 122) : mem sgName x = true ∧ mem sgWord x = true ∧ mem sgLetter x = true ∧ mem sgFigure x = false := by
  obtain ⟨k, rfl⟩ : ∃ k, x = 97 + k := ⟨x - 97, by omega⟩
  have hk : k < 26 := by omega
  exact (show ∀ k, k < 26 → (mem sgName (97 + k) = true ∧ mem sgWord (97 + k) = true ∧ mem sgLetter (97 + k) = true ∧ mem sgFigure (97 + k) = false) by decide +kernel) k hk
theorem all_az {l : List Nat} {m : Str} (h : ∀ x ∈ l, 97 ≤ x ∧ x ≤ 121) (hm : ∀ {x : Nat}, (97 ≤ x ∧ x ≤ 122) → mem m x = true) : l.all (mem m) = true :=
  List.all_eq_true.mpr fun x hx => hm ⟨(h x hx).1, Nat.le_succ_of_le (h x hx).2⟩
section
variable {nm sh vl : List Nat} {c d : Nat} (g : Good nm sh vl c d)
include g
theorem Good.nz : nm ≠ zz := by
  intro e
  have := g.nc 122 (by rw [e]; simp)
  omega
theorem Good.nz2 (r : List Nat) : nm ≠ 122 :: r := by
  intro e
  have := g.nc 122 (by rw [e]; simp)
  omega
theorem Good.ne : nm ≠ [] := by
  intro e
  have := g.n2
  rw [e] at this
  simp at this
theorem Good.ncut : 61 ∉ nm := fun h => by have := g.nc _ h; omega
theorem Good.shc : ∀ x ∈ sh, 97 ≤ x ∧ x ≤ 121 := by
  obtain ⟨k, _, _, rfl⟩ := g.sh_
  exact fun x hx => g.nc x (List.mem_of_mem_take hx)
theorem Good.scut : 61 ∉ sh := fun h => by have := g.shc _ h; omega
theorem Good.shl : 1 ≤ sh.length ∧ sh.length < nm.length := by
  obtain ⟨k, h1, h2, rfl⟩ := g.sh_
  rw [List.length_take]
  omega
theorem Good.sne : sh ≠ nm := by
  intro e
  have := g.shl
  rw [e] at this
  omega
theorem Good.she : sh ≠ [] := by
  intro e
  have := g.shl
  rw [e] at this
  simp at this
theorem Good.snz (r : List Nat) : sh ≠ 122 :: r := by
  intro e
  have := g.shc 122 (by rw [e]; simp)
  omega
theorem Good.bn : begins sh nm = true := by
  obtain ⟨k, h1, h2, e⟩ := g.sh_
  have z := g.she
  unfold begins
  rw [Bool.and_eq_true, decide_eq_true_eq, List.isPrefixOf_iff_prefix]
  refine ⟨z, ?_⟩
  rw [e]
  exact List.take_prefix _ _
theorem Good.bz : begins sh zz = false := by
  obtain ⟨x, r, e⟩ : ∃ x r, sh = x :: r := by
    cases h : sh with
    | nil => exact absurd h g.she
    | cons x r => exact ⟨x, r, rfl⟩
  have hx := g.shc x (by rw [e]; simp)
  rw [e]
  unfold begins
  simp [List.isPrefixOf]
  omega
/-- what the reader asks of the grammar -/
structure Fx (G : Gr) (nm sh : List Nat) (c d : Nat) (s x m : Bool) : Prop where
  tn : tellF G nm = some nm
  ts : tellF G sh = if s = true then some nm else none
  tz : tellF G zz = some zz
  te : tellF G [] = none
  kn : kindOf G nm = kLast
  kz : kindOf G zz = kCount
  lc : letterF G [c] = some nm
  ld : letterF G [d] = some zz
  rn : readsNum G = m
  mx : G.mixed = x
  l5 : letterF G [53] = none
  dl : ∀ n, dealOk G.pls n = true
theorem Good.fx (s x m : Bool) : Fx (grF nm c d s x m) nm sh c d s x m := by
  have hz := g.nz
  have hc := g.c_
  have hd := g.d_
  have hcd := g.cd
  refine ⟨?_, ?_, ?_, ?_, ?_, ?_, ?_, ?_, ?_, rfl, ?_, fun n => ?_⟩
  · simp [tellF, Gr.names, grF]
  · simp [tellF, Gr.names, grF, g.sne, g.snz, onlyOne, List.filter, g.bn, g.bz]
  · simp [tellF, Gr.names, grF]
  · simp [tellF, Gr.names, grF, onlyOne, begins, List.filter, g.ne.symm]
  · simp [kindOf, kindF, grF, List.find?]
  · simp [kindOf, kindF, grF, List.find?, hz]
  · simp [letterF, grF, List.find?, List.filter]
  · simp [letterF, grF, List.find?, List.filter, hcd]
  · simp [readsNum, grF, (mem_az (x := c) (by omega)).2.2.2, (mem_az (x := d) (by omega)).2.2.2]
  · have h1 : c ≠ 53 := by omega
    have h2 : d ≠ 53 := by omega
    simp [letterF, grF, List.filter, h1, h2]
  · have h1 : arityCount (grF nm c d s x m).pls aOne = 0 := by show arityCount [([105, 110], aMany)] aOne = 0; decide
    have h2 : arityCount (grF nm c d s x m).pls aMany = 1 := by show arityCount [([105, 110], aMany)] aMany = 1; decide
    unfold dealOk
    rw [h1, h2]
    simp
end
theorem n5 : number [45, 53] = true := by decide +kernel
theorem n55 : number [45, 53, 53] = true := by decide +kernel
theorem n57 : number [45, 53, 55] = true := by decide +kernel
theorem cutz : cutEq zz = (zz, none) := by decide
theorem cute : cutEq [61] = ([], some []) := by decide
section
variable {G : Gr} {nm sh vl : List Nat} {c d : Nat} {s x m : Bool} (F : Fx G nm sh c d s x m) (g : Good nm sh vl c d)
include g
theorem Good.cutn (v : List Nat) : cutEq (nm ++ 61 :: v) = (nm, some v) := by
  have := cut_some (l := nm) v g.ncut
  rwa [List.append_assoc] at this
theorem Good.cuts (v : List Nat) : cutEq (sh ++ 61 :: v) = (sh, some v) := by
  have := cut_some (l := sh) v g.scut
  rwa [List.append_assoc] at this
theorem Good.numc (r : List Nat) : number (45 :: c :: r) = false := by
  have := g.c_
  simp [number, (mem_az (x := c) (by omega)).2.2.2]
theorem Good.numd (r : List Nat) : number (45 :: d :: r) = false := by
  have := g.d_
  simp [number, (mem_az (x := d) (by omega)).2.2.2]
include F
theorem p0 (v : List Nat) : lastsF G [[45, 45] ++ nm, v] = (true) := by
  have hc : c ≠ 45 := by have := g.c_; omega
  have hd : d ≠ 45 := by have := g.d_; omega
  cases s <;> cases x <;> cases m <;> simp [lastsF, acceptedF, accF, lastF, lineF, wordF, rs0, dashed, longF, awaitF, lone, valueless, giveF, placeF, lettersF, F.tn, F.ts, F.tz, F.te, F.kn, F.kz, F.lc, F.ld, F.rn, F.mx, F.l5, F.dl, g.ne, g.she, g.sne, cut_none g.ncut, cut_none g.scut, n5, n55, cutz, g.cutn, g.cuts, cute, hc, hd, g.numc, g.numd]
theorem p1 (v : List Nat) : lastsF G [[45, 45] ++ sh, v] = (false) := by
  have hc : c ≠ 45 := by have := g.c_; omega
  have hd : d ≠ 45 := by have := g.d_; omega
  cases s <;> cases x <;> cases m <;> simp [lastsF, acceptedF, accF, lastF, lineF, wordF, rs0, dashed, longF, awaitF, lone, valueless, giveF, placeF, lettersF, F.tn, F.ts, F.tz, F.te, F.kn, F.kz, F.lc, F.ld, F.rn, F.mx, F.l5, F.dl, g.ne, g.she, g.sne, cut_none g.ncut, cut_none g.scut, n5, n55, cutz, g.cutn, g.cuts, cute, hc, hd, g.numc, g.numd]
theorem p2 (v : List Nat) : lastsF G [(([45, 45] ++ nm) ++ [61]) ++ v] = (true) := by
  have hc : c ≠ 45 := by have := g.c_; omega
  have hd : d ≠ 45 := by have := g.d_; omega
  cases s <;> cases x <;> cases m <;> simp [lastsF, acceptedF, accF, lastF, lineF, wordF, rs0, dashed, longF, awaitF, lone, valueless, giveF, placeF, lettersF, F.tn, F.ts, F.tz, F.te, F.kn, F.kz, F.lc, F.ld, F.rn, F.mx, F.l5, F.dl, g.ne, g.she, g.sne, cut_none g.ncut, cut_none g.scut, n5, n55, cutz, g.cutn, g.cuts, cute, hc, hd, g.numc, g.numd]
theorem p3 (v : List Nat) : lastsF G [([45, 45] ++ sh) ++ [61]] = (false) := by
  have hc : c ≠ 45 := by have := g.c_; omega
  have hd : d ≠ 45 := by have := g.d_; omega
  cases s <;> cases x <;> cases m <;> simp [lastsF, acceptedF, accF, lastF, lineF, wordF, rs0, dashed, longF, awaitF, lone, valueless, giveF, placeF, lettersF, F.tn, F.ts, F.tz, F.te, F.kn, F.kz, F.lc, F.ld, F.rn, F.mx, F.l5, F.dl, g.ne, g.she, g.sne, cut_none g.ncut, cut_none g.scut, n5, n55, cutz, g.cutn, g.cuts, cute, hc, hd, g.numc, g.numd]
theorem p4 (v : List Nat) : lastsF G [([45] ++ [c]) ++ [118]] = (true) := by
  have hc : c ≠ 45 := by have := g.c_; omega
  have hd : d ≠ 45 := by have := g.d_; omega
  cases s <;> cases x <;> cases m <;> simp [lastsF, acceptedF, accF, lastF, lineF, wordF, rs0, dashed, longF, awaitF, lone, valueless, giveF, placeF, lettersF, F.tn, F.ts, F.tz, F.te, F.kn, F.kz, F.lc, F.ld, F.rn, F.mx, F.l5, F.dl, g.ne, g.she, g.sne, cut_none g.ncut, cut_none g.scut, n5, n55, cutz, g.cutn, g.cuts, cute, hc, hd, g.numc, g.numd]
theorem p5 (v : List Nat) : lastsF G [([45] ++ [d]) ++ [d]] = (true) := by
  have hc : c ≠ 45 := by have := g.c_; omega
  have hd : d ≠ 45 := by have := g.d_; omega
  cases s <;> cases x <;> cases m <;> simp [lastsF, acceptedF, accF, lastF, lineF, wordF, rs0, dashed, longF, awaitF, lone, valueless, giveF, placeF, lettersF, F.tn, F.ts, F.tz, F.te, F.kn, F.kz, F.lc, F.ld, F.rn, F.mx, F.l5, F.dl, g.ne, g.she, g.sne, cut_none g.ncut, cut_none g.scut, n5, n55, cutz, g.cutn, g.cuts, cute, hc, hd, g.numc, g.numd]
theorem p6 (v : List Nat) : lastsF G [([45] ++ [d]) ++ [c], [45, 53]] = (true) := by
  have hc : c ≠ 45 := by have := g.c_; omega
  have hd : d ≠ 45 := by have := g.d_; omega
  cases s <;> cases x <;> cases m <;> simp [lastsF, acceptedF, accF, lastF, lineF, wordF, rs0, dashed, longF, awaitF, lone, valueless, giveF, placeF, lettersF, F.tn, F.ts, F.tz, F.te, F.kn, F.kz, F.lc, F.ld, F.rn, F.mx, F.l5, F.dl, g.ne, g.she, g.sne, cut_none g.ncut, cut_none g.scut, n5, n55, cutz, g.cutn, g.cuts, cute, hc, hd, g.numc, g.numd]
theorem p7 (v : List Nat) : lastsF G [[119], [45, 53]] = (!x) := by
  have hc : c ≠ 45 := by have := g.c_; omega
  have hd : d ≠ 45 := by have := g.d_; omega
  cases s <;> cases x <;> cases m <;> simp [lastsF, acceptedF, accF, lastF, lineF, wordF, rs0, dashed, longF, awaitF, lone, valueless, giveF, placeF, lettersF, F.tn, F.ts, F.tz, F.te, F.kn, F.kz, F.lc, F.ld, F.rn, F.mx, F.l5, F.dl, g.ne, g.she, g.sne, cut_none g.ncut, cut_none g.scut, n5, n55, cutz, g.cutn, g.cuts, cute, hc, hd, g.numc, g.numd]
theorem p8 (v : List Nat) : lastsF G [[45, 53]] = (false) := by
  have hc : c ≠ 45 := by have := g.c_; omega
  have hd : d ≠ 45 := by have := g.d_; omega
  cases s <;> cases x <;> cases m <;> simp [lastsF, acceptedF, accF, lastF, lineF, wordF, rs0, dashed, longF, awaitF, lone, valueless, giveF, placeF, lettersF, F.tn, F.ts, F.tz, F.te, F.kn, F.kz, F.lc, F.ld, F.rn, F.mx, F.l5, F.dl, g.ne, g.she, g.sne, cut_none g.ncut, cut_none g.scut, n5, n55, cutz, g.cutn, g.cuts, cute, hc, hd, g.numc, g.numd]
theorem p9 (v : List Nat) : lastsF G [[45, 45], [45, 53]] = (true) := by
  have hc : c ≠ 45 := by have := g.c_; omega
  have hd : d ≠ 45 := by have := g.d_; omega
  cases s <;> cases x <;> cases m <;> simp [lastsF, acceptedF, accF, lastF, lineF, wordF, rs0, dashed, longF, awaitF, lone, valueless, giveF, placeF, lettersF, F.tn, F.ts, F.tz, F.te, F.kn, F.kz, F.lc, F.ld, F.rn, F.mx, F.l5, F.dl, g.ne, g.she, g.sne, cut_none g.ncut, cut_none g.scut, n5, n55, cutz, g.cutn, g.cuts, cute, hc, hd, g.numc, g.numd]
theorem p10 (v : List Nat) : lastsF G [[45]] = (true) := by
  have hc : c ≠ 45 := by have := g.c_; omega
  have hd : d ≠ 45 := by have := g.d_; omega
  cases s <;> cases x <;> cases m <;> simp [lastsF, acceptedF, accF, lastF, lineF, wordF, rs0, dashed, longF, awaitF, lone, valueless, giveF, placeF, lettersF, F.tn, F.ts, F.tz, F.te, F.kn, F.kz, F.lc, F.ld, F.rn, F.mx, F.l5, F.dl, g.ne, g.she, g.sne, cut_none g.ncut, cut_none g.scut, n5, n55, cutz, g.cutn, g.cuts, cute, hc, hd, g.numc, g.numd]
theorem p11 (v : List Nat) : lastsF G [[]] = (true) := by
  have hc : c ≠ 45 := by have := g.c_; omega
  have hd : d ≠ 45 := by have := g.d_; omega
  cases s <;> cases x <;> cases m <;> simp [lastsF, acceptedF, accF, lastF, lineF, wordF, rs0, dashed, longF, awaitF, lone, valueless, giveF, placeF, lettersF, F.tn, F.ts, F.tz, F.te, F.kn, F.kz, F.lc, F.ld, F.rn, F.mx, F.l5, F.dl, g.ne, g.she, g.sne, cut_none g.ncut, cut_none g.scut, n5, n55, cutz, g.cutn, g.cuts, cute, hc, hd, g.numc, g.numd]
theorem p12 (v : List Nat) : lastsF G [] = (true) := by
  have hc : c ≠ 45 := by have := g.c_; omega
  have hd : d ≠ 45 := by have := g.d_; omega
  cases s <;> cases x <;> cases m <;> simp [lastsF, acceptedF, accF, lastF, lineF, wordF, rs0, dashed, longF, awaitF, lone, valueless, giveF, placeF, lettersF, F.tn, F.ts, F.tz, F.te, F.kn, F.kz, F.lc, F.ld, F.rn, F.mx, F.l5, F.dl, g.ne, g.she, g.sne, cut_none g.ncut, cut_none g.scut, n5, n55, cutz, g.cutn, g.cuts, cute, hc, hd, g.numc, g.numd]
theorem p13 (v : List Nat) : lastsF G [[45, 45], [45, 45] ++ sh] = (true) := by
  have hc : c ≠ 45 := by have := g.c_; omega
  have hd : d ≠ 45 := by have := g.d_; omega
  cases s <;> cases x <;> cases m <;> simp [lastsF, acceptedF, accF, lastF, lineF, wordF, rs0, dashed, longF, awaitF, lone, valueless, giveF, placeF, lettersF, F.tn, F.ts, F.tz, F.te, F.kn, F.kz, F.lc, F.ld, F.rn, F.mx, F.l5, F.dl, g.ne, g.she, g.sne, cut_none g.ncut, cut_none g.scut, n5, n55, cutz, g.cutn, g.cuts, cute, hc, hd, g.numc, g.numd]
theorem p14 (v : List Nat) : lastsF G [[45, 45] ++ nm, [45, 45] ++ sh] = (true) := by
  have hc : c ≠ 45 := by have := g.c_; omega
  have hd : d ≠ 45 := by have := g.d_; omega
  cases s <;> cases x <;> cases m <;> simp [lastsF, acceptedF, accF, lastF, lineF, wordF, rs0, dashed, longF, awaitF, lone, valueless, giveF, placeF, lettersF, F.tn, F.ts, F.tz, F.te, F.kn, F.kz, F.lc, F.ld, F.rn, F.mx, F.l5, F.dl, g.ne, g.she, g.sne, cut_none g.ncut, cut_none g.scut, n5, n55, cutz, g.cutn, g.cuts, cute, hc, hd, g.numc, g.numd]
theorem p15 (v : List Nat) : lastsF G [[45, 45] ++ nm, [45, 45], [45, 53]] = (false) := by
  have hc : c ≠ 45 := by have := g.c_; omega
  have hd : d ≠ 45 := by have := g.d_; omega
  cases s <;> cases x <;> cases m <;> simp [lastsF, acceptedF, accF, lastF, lineF, wordF, rs0, dashed, longF, awaitF, lone, valueless, giveF, placeF, lettersF, F.tn, F.ts, F.tz, F.te, F.kn, F.kz, F.lc, F.ld, F.rn, F.mx, F.l5, F.dl, g.ne, g.she, g.sne, cut_none g.ncut, cut_none g.scut, n5, n55, cutz, g.cutn, g.cuts, cute, hc, hd, g.numc, g.numd]
theorem p16 (v : List Nat) : lastsF G [[45, 45] ++ nm] = (false) := by
  have hc : c ≠ 45 := by have := g.c_; omega
  have hd : d ≠ 45 := by have := g.d_; omega
  cases s <;> cases x <;> cases m <;> simp [lastsF, acceptedF, accF, lastF, lineF, wordF, rs0, dashed, longF, awaitF, lone, valueless, giveF, placeF, lettersF, F.tn, F.ts, F.tz, F.te, F.kn, F.kz, F.lc, F.ld, F.rn, F.mx, F.l5, F.dl, g.ne, g.she, g.sne, cut_none g.ncut, cut_none g.scut, n5, n55, cutz, g.cutn, g.cuts, cute, hc, hd, g.numc, g.numd]
theorem p17 (v : List Nat) : lastsF G [[119], ([45, 45] ++ sh) ++ [61]] = (!x) := by
  have hc : c ≠ 45 := by have := g.c_; omega
  have hd : d ≠ 45 := by have := g.d_; omega
  cases s <;> cases x <;> cases m <;> simp [lastsF, acceptedF, accF, lastF, lineF, wordF, rs0, dashed, longF, awaitF, lone, valueless, giveF, placeF, lettersF, F.tn, F.ts, F.tz, F.te, F.kn, F.kz, F.lc, F.ld, F.rn, F.mx, F.l5, F.dl, g.ne, g.she, g.sne, cut_none g.ncut, cut_none g.scut, n5, n55, cutz, g.cutn, g.cuts, cute, hc, hd, g.numc, g.numd]
theorem p18 (v : List Nat) : lastsF G [[119], ([45, 45] ++ nm) ++ [61]] = (true) := by
  have hc : c ≠ 45 := by have := g.c_; omega
  have hd : d ≠ 45 := by have := g.d_; omega
  cases s <;> cases x <;> cases m <;> simp [lastsF, acceptedF, accF, lastF, lineF, wordF, rs0, dashed, longF, awaitF, lone, valueless, giveF, placeF, lettersF, F.tn, F.ts, F.tz, F.te, F.kn, F.kz, F.lc, F.ld, F.rn, F.mx, F.l5, F.dl, g.ne, g.she, g.sne, cut_none g.ncut, cut_none g.scut, n5, n55, cutz, g.cutn, g.cuts, cute, hc, hd, g.numc, g.numd]
theorem p19 (v : List Nat) : lastsF G [(([45] ++ [c]) ++ [45, 45]) ++ sh] = (true) := by
  have hc : c ≠ 45 := by have := g.c_; omega
  have hd : d ≠ 45 := by have := g.d_; omega
  cases s <;> cases x <;> cases m <;> simp [lastsF, acceptedF, accF, lastF, lineF, wordF, rs0, dashed, longF, awaitF, lone, valueless, giveF, placeF, lettersF, F.tn, F.ts, F.tz, F.te, F.kn, F.kz, F.lc, F.ld, F.rn, F.mx, F.l5, F.dl, g.ne, g.she, g.sne, cut_none g.ncut, cut_none g.scut, n5, n55, cutz, g.cutn, g.cuts, cute, hc, hd, g.numc, g.numd]
theorem p20 (v : List Nat) : lastsF G [[45, 45] ++ zz] = (true) := by
  have hc : c ≠ 45 := by have := g.c_; omega
  have hd : d ≠ 45 := by have := g.d_; omega
  cases s <;> cases x <;> cases m <;> simp [lastsF, acceptedF, accF, lastF, lineF, wordF, rs0, dashed, longF, awaitF, lone, valueless, giveF, placeF, lettersF, F.tn, F.ts, F.tz, F.te, F.kn, F.kz, F.lc, F.ld, F.rn, F.mx, F.l5, F.dl, g.ne, g.she, g.sne, cut_none g.ncut, cut_none g.scut, n5, n55, cutz, g.cutn, g.cuts, cute, hc, hd, g.numc, g.numd]
theorem p21 (v : List Nat) : lastsF G [[45, 45] ++ nm, v, [45, 45] ++ sh, v] = (false) := by
  have hc : c ≠ 45 := by have := g.c_; omega
  have hd : d ≠ 45 := by have := g.d_; omega
  cases s <;> cases x <;> cases m <;> simp [lastsF, acceptedF, accF, lastF, lineF, wordF, rs0, dashed, longF, awaitF, lone, valueless, giveF, placeF, lettersF, F.tn, F.ts, F.tz, F.te, F.kn, F.kz, F.lc, F.ld, F.rn, F.mx, F.l5, F.dl, g.ne, g.she, g.sne, cut_none g.ncut, cut_none g.scut, n5, n55, cutz, g.cutn, g.cuts, cute, hc, hd, g.numc, g.numd]
theorem p22 (v : List Nat) : lastsF G [[45, 45, 61]] = (false) := by
  have hc : c ≠ 45 := by have := g.c_; omega
  have hd : d ≠ 45 := by have := g.d_; omega
  cases s <;> cases x <;> cases m <;> simp [lastsF, acceptedF, accF, lastF, lineF, wordF, rs0, dashed, longF, awaitF, lone, valueless, giveF, placeF, lettersF, F.tn, F.ts, F.tz, F.te, F.kn, F.kz, F.lc, F.ld, F.rn, F.mx, F.l5, F.dl, g.ne, g.she, g.sne, cut_none g.ncut, cut_none g.scut, n5, n55, cutz, g.cutn, g.cuts, cute, hc, hd, g.numc, g.numd]
theorem p23 (v : List Nat) : lastsF G [([45] ++ [c]) ++ [c], [45] ++ [d]] = (true) := by
  have hc : c ≠ 45 := by have := g.c_; omega
  have hd : d ≠ 45 := by have := g.d_; omega
  cases s <;> cases x <;> cases m <;> simp [lastsF, acceptedF, accF, lastF, lineF, wordF, rs0, dashed, longF, awaitF, lone, valueless, giveF, placeF, lettersF, F.tn, F.ts, F.tz, F.te, F.kn, F.kz, F.lc, F.ld, F.rn, F.mx, F.l5, F.dl, g.ne, g.she, g.sne, cut_none g.ncut, cut_none g.scut, n5, n55, cutz, g.cutn, g.cuts, cute, hc, hd, g.numc, g.numd]
theorem p24 (v : List Nat) : lastsF G [[45, 45], [45, 45], [45] ++ v] = (true) := by
  have hc : c ≠ 45 := by have := g.c_; omega
  have hd : d ≠ 45 := by have := g.d_; omega
  cases s <;> cases x <;> cases m <;> simp [lastsF, acceptedF, accF, lastF, lineF, wordF, rs0, dashed, longF, awaitF, lone, valueless, giveF, placeF, lettersF, F.tn, F.ts, F.tz, F.te, F.kn, F.kz, F.lc, F.ld, F.rn, F.mx, F.l5, F.dl, g.ne, g.she, g.sne, cut_none g.ncut, cut_none g.scut, n5, n55, cutz, g.cutn, g.cuts, cute, hc, hd, g.numc, g.numd]
theorem p25 (v : List Nat) : lastsF G [[45] ++ [d], [45], [46]] = (true) := by
  have hc : c ≠ 45 := by have := g.c_; omega
  have hd : d ≠ 45 := by have := g.d_; omega
  cases s <;> cases x <;> cases m <;> simp [lastsF, acceptedF, accF, lastF, lineF, wordF, rs0, dashed, longF, awaitF, lone, valueless, giveF, placeF, lettersF, F.tn, F.ts, F.tz, F.te, F.kn, F.kz, F.lc, F.ld, F.rn, F.mx, F.l5, F.dl, g.ne, g.she, g.sne, cut_none g.ncut, cut_none g.scut, n5, n55, cutz, g.cutn, g.cuts, cute, hc, hd, g.numc, g.numd]
end
end KL

set_option Elab.async false
set_option maxRecDepth 100000
set_option maxHeartbeats 4000000
set_option linter.unusedSimpArgs false
namespace KL
open PySem PySem.Spec PyProof.Rows L2 SX Evl
section
variable {nm sh vl : List Nat} {c d : Nat} (g : Good nm sh vl c d)
include g
theorem Good.nmok : nameOk nm = true := by
  have h1 := g.n2
  have h2 := g.n12
  have h3 : nm.all (mem sgName) = true := all_az g.nc fun h => (mem_az h).1
  have h4 : nm.head? ≠ some 45 := fun e => by
    have := g.nc 45 (List.mem_of_mem_head? (by rw [e]; rfl))
    omega
  have h5 : nm.getLast? ≠ some 45 := fun e => by
    have := g.nc 45 (List.mem_of_getLast? e)
    omega
  simp [nameOk, h1, h2, h3, h4, h5]
omit g in
theorem lok (x : Nat) (h : 97 ≤ x ∧ x ≤ 121) : letterOk [x] = true := by
  have h1 := (mem_az (x := x) (by omega)).2.2.1
  simp [letterOk, h1]
theorem gr_ok (s x m : Bool) : (grF nm c d s x m).Ok := by
  have hc := lok c g.c_
  have hd := lok d g.d_
  have hz := g.nz
  have hcd := g.cd
  have zo : nameOk zz = true := by decide +kernel
  have io : nameOk [105, 110] = true := by decide +kernel
  refine ⟨by show 2 ≤ 24; decide, ?_, ?_, ?_, by show 1 ≤ 5; decide, ?_, ?_, ?_⟩
  · simp [grF, Opt.ok, hc, hd, g.nmok, zo, kinds]
  · simp [grF, hz]
  · simp [grF, List.filter, hcd]
  · simp [grF, io, arities]
  · simp [grF]
  · simp [grF, List.filter]
theorem gr3_ok : (gr3 nm c d).Ok := by
  have hc := lok c g.c_
  have hd := lok d g.d_
  have hz := g.nz
  have hcd := g.cd
  have c5 : c ≠ 53 := by have := g.c_; omega
  have d5 : d ≠ 53 := by have := g.d_; omega
  have zo : nameOk zz = true := by decide +kernel
  have yo : nameOk [122, 121] = true := by decide +kernel
  have fo : letterOk [53] = true := by decide +kernel
  have io : nameOk [105, 110] = true := by decide +kernel
  refine ⟨by show 3 ≤ 24; decide, ?_, ?_, ?_, by show 1 ≤ 5; decide, ?_, ?_, ?_⟩
  · simp [gr3, Opt.ok, hc, hd, g.nmok, zo, yo, fo, kinds]
  · simp [gr3, hz, g.nz2]
  · simp [gr3, List.filter, hcd, c5, d5]
  · simp [gr3, io, arities]
  · simp [gr3]
  · simp [gr3, List.filter]
theorem gr0_ok : (gr0 nm c d).Ok := by
  have hc := lok c g.c_
  have hd := lok d g.d_
  have hz := g.nz
  have hcd := g.cd
  have zo : nameOk zz = true := by decide +kernel
  refine ⟨by show 2 ≤ 24; decide, ?_, ?_, ?_, by show 0 ≤ 5; decide, ?_, ?_, ?_⟩
  · simp [gr0, Opt.ok, hc, hd, g.nmok, zo, kinds]
  · simp [gr0, hz]
  · simp [gr0, List.filter, hcd]
  · simp [gr0]
  · simp [gr0]
  · simp [gr0]
theorem Good.vlok : vl.length ≤ 15 ∧ vl.all (mem sgWord) = true := by
  have h1 : sh.all (mem sgWord) = true := all_az g.shc fun h => (mem_az h).2.1
  have h45 : mem sgWord 45 = true := by decide +kernel
  have h2 := g.shl
  have h3 := g.n12
  rcases g.vl_ with e | e | e | e | e <;> rw [e]
  · decide +kernel
  · decide +kernel
  · decide +kernel
  · simp [h1, h45]
    omega
  · decide +kernel
theorem rows_so : ∀ r ∈ rowsF ([45, 45] ++ nm) [c] [d] sh vl zz, (∀ l ∈ r.1, wordOk l = true) ∧ r.1.length ≤ 80 ∧
    r.2 = [lastsF (grF nm c d true true true) r.1, lastsF (grF nm c d true false true) r.1, lastsF (grF nm c d true true false) r.1, lastsF (grF nm c d false true true) r.1] := by
  have h45 : mem sgWord 45 = true := by decide +kernel
  have h53 : mem sgWord 53 = true := by decide +kernel
  have h61 : mem sgWord 61 = true := by decide +kernel
  have h46 : mem sgWord 46 = true := by decide +kernel
  have h118 : mem sgWord 118 = true := by decide +kernel
  have h119 : mem sgWord 119 = true := by decide +kernel
  have h122 : mem sgWord 122 = true := by decide +kernel
  have hc : mem sgWord c = true := (mem_az (by have := g.c_; omega)).2.1
  have hd : mem sgWord d = true := (mem_az (by have := g.d_; omega)).2.1
  have hn : nm.all (mem sgWord) = true := all_az g.nc fun h => (mem_az h).2.1
  have hs : sh.all (mem sgWord) = true := all_az g.shc fun h => (mem_az h).2.1
  have hv := g.vlok.2
  have l1 := g.n12
  have l2 := g.shl
  have l3 := g.vlok.1
  have f1 := g.fx true true true
  have f2 := g.fx true false true
  have f3 := g.fx true true false
  have f4 := g.fx false true true
  intro r hr
  simp only [rowsF, rowsU12, rowsU11, rowsU10, rowsU9, rowsU8, rowsU7, rowsU6, rowsU5, rowsU4, rowsU3, rowsU2, rowsU1, rowsU0, rowsP0, rowsP1, rowsP2, rowsP3, rowsP4, rowsP5, rowsP6, rowsP7, rowsP8, rowsP9, rowsP10, rowsP11, rowsP12, List.mem_append, List.mem_cons, List.not_mem_nil, or_false, or_assoc] at hr
  rcases hr with rfl | rfl | rfl | rfl | rfl | rfl | rfl | rfl | rfl | rfl | rfl | rfl | rfl | rfl | rfl | rfl | rfl | rfl | rfl | rfl | rfl | rfl | rfl | rfl | rfl | rfl
  · refine ⟨by first | (simp [wordOk, -List.all_eq_true, hn, hs, hv, hc, hd, h45, h53, h61, h46, h118, h119, h122]; done) | (simp [wordOk, -List.all_eq_true, hn, hs, hv, hc, hd, h45, h53, h61, h46, h118, h119, h122]; omega), by simp, ?_⟩
    rw [p0 f1 g [45, 53], p0 f2 g [45, 53], p0 f3 g [45, 53], p0 f4 g [45, 53]]
    try rfl
  · refine ⟨by first | (simp [wordOk, -List.all_eq_true, hn, hs, hv, hc, hd, h45, h53, h61, h46, h118, h119, h122]; done) | (simp [wordOk, -List.all_eq_true, hn, hs, hv, hc, hd, h45, h53, h61, h46, h118, h119, h122]; omega), by simp, ?_⟩
    rw [p1 f1 g vl, p1 f2 g vl, p1 f3 g vl, p1 f4 g vl]
    try rfl
  · refine ⟨by first | (simp [wordOk, -List.all_eq_true, hn, hs, hv, hc, hd, h45, h53, h61, h46, h118, h119, h122]; done) | (simp [wordOk, -List.all_eq_true, hn, hs, hv, hc, hd, h45, h53, h61, h46, h118, h119, h122]; omega), by simp, ?_⟩
    rw [p2 f1 g vl, p2 f2 g vl, p2 f3 g vl, p2 f4 g vl]
    try rfl
  · refine ⟨by first | (simp [wordOk, -List.all_eq_true, hn, hs, hv, hc, hd, h45, h53, h61, h46, h118, h119, h122]; done) | (simp [wordOk, -List.all_eq_true, hn, hs, hv, hc, hd, h45, h53, h61, h46, h118, h119, h122]; omega), by simp, ?_⟩
    rw [p3 f1 g [], p3 f2 g [], p3 f3 g [], p3 f4 g []]
    try rfl
  · refine ⟨by first | (simp [wordOk, -List.all_eq_true, hn, hs, hv, hc, hd, h45, h53, h61, h46, h118, h119, h122]; done) | (simp [wordOk, -List.all_eq_true, hn, hs, hv, hc, hd, h45, h53, h61, h46, h118, h119, h122]; omega), by simp, ?_⟩
    rw [p4 f1 g [], p4 f2 g [], p4 f3 g [], p4 f4 g []]
    try rfl
  · refine ⟨by first | (simp [wordOk, -List.all_eq_true, hn, hs, hv, hc, hd, h45, h53, h61, h46, h118, h119, h122]; done) | (simp [wordOk, -List.all_eq_true, hn, hs, hv, hc, hd, h45, h53, h61, h46, h118, h119, h122]; omega), by simp, ?_⟩
    rw [p5 f1 g [], p5 f2 g [], p5 f3 g [], p5 f4 g []]
    try rfl
  · refine ⟨by first | (simp [wordOk, -List.all_eq_true, hn, hs, hv, hc, hd, h45, h53, h61, h46, h118, h119, h122]; done) | (simp [wordOk, -List.all_eq_true, hn, hs, hv, hc, hd, h45, h53, h61, h46, h118, h119, h122]; omega), by simp, ?_⟩
    rw [p6 f1 g [], p6 f2 g [], p6 f3 g [], p6 f4 g []]
    try rfl
  · refine ⟨by first | (simp [wordOk, -List.all_eq_true, hn, hs, hv, hc, hd, h45, h53, h61, h46, h118, h119, h122]; done) | (simp [wordOk, -List.all_eq_true, hn, hs, hv, hc, hd, h45, h53, h61, h46, h118, h119, h122]; omega), by simp, ?_⟩
    rw [p7 f1 g [], p7 f2 g [], p7 f3 g [], p7 f4 g []]
    try rfl
  · refine ⟨by first | (simp [wordOk, -List.all_eq_true, hn, hs, hv, hc, hd, h45, h53, h61, h46, h118, h119, h122]; done) | (simp [wordOk, -List.all_eq_true, hn, hs, hv, hc, hd, h45, h53, h61, h46, h118, h119, h122]; omega), by simp, ?_⟩
    rw [p8 f1 g [], p8 f2 g [], p8 f3 g [], p8 f4 g []]
    try rfl
  · refine ⟨by first | (simp [wordOk, -List.all_eq_true, hn, hs, hv, hc, hd, h45, h53, h61, h46, h118, h119, h122]; done) | (simp [wordOk, -List.all_eq_true, hn, hs, hv, hc, hd, h45, h53, h61, h46, h118, h119, h122]; omega), by simp, ?_⟩
    rw [p9 f1 g [], p9 f2 g [], p9 f3 g [], p9 f4 g []]
    try rfl
  · refine ⟨by first | (simp [wordOk, -List.all_eq_true, hn, hs, hv, hc, hd, h45, h53, h61, h46, h118, h119, h122]; done) | (simp [wordOk, -List.all_eq_true, hn, hs, hv, hc, hd, h45, h53, h61, h46, h118, h119, h122]; omega), by simp, ?_⟩
    rw [p10 f1 g [], p10 f2 g [], p10 f3 g [], p10 f4 g []]
    try rfl
  · refine ⟨by first | (simp [wordOk, -List.all_eq_true, hn, hs, hv, hc, hd, h45, h53, h61, h46, h118, h119, h122]; done) | (simp [wordOk, -List.all_eq_true, hn, hs, hv, hc, hd, h45, h53, h61, h46, h118, h119, h122]; omega), by simp, ?_⟩
    rw [p11 f1 g [], p11 f2 g [], p11 f3 g [], p11 f4 g []]
    try rfl
  · refine ⟨by first | (simp [wordOk, -List.all_eq_true, hn, hs, hv, hc, hd, h45, h53, h61, h46, h118, h119, h122]; done) | (simp [wordOk, -List.all_eq_true, hn, hs, hv, hc, hd, h45, h53, h61, h46, h118, h119, h122]; omega), by simp, ?_⟩
    rw [p12 f1 g [], p12 f2 g [], p12 f3 g [], p12 f4 g []]
    try rfl
  · refine ⟨by first | (simp [wordOk, -List.all_eq_true, hn, hs, hv, hc, hd, h45, h53, h61, h46, h118, h119, h122]; done) | (simp [wordOk, -List.all_eq_true, hn, hs, hv, hc, hd, h45, h53, h61, h46, h118, h119, h122]; omega), by simp, ?_⟩
    rw [p13 f1 g [], p13 f2 g [], p13 f3 g [], p13 f4 g []]
    try rfl
  · refine ⟨by first | (simp [wordOk, -List.all_eq_true, hn, hs, hv, hc, hd, h45, h53, h61, h46, h118, h119, h122]; done) | (simp [wordOk, -List.all_eq_true, hn, hs, hv, hc, hd, h45, h53, h61, h46, h118, h119, h122]; omega), by simp, ?_⟩
    rw [p14 f1 g [], p14 f2 g [], p14 f3 g [], p14 f4 g []]
    try rfl
  · refine ⟨by first | (simp [wordOk, -List.all_eq_true, hn, hs, hv, hc, hd, h45, h53, h61, h46, h118, h119, h122]; done) | (simp [wordOk, -List.all_eq_true, hn, hs, hv, hc, hd, h45, h53, h61, h46, h118, h119, h122]; omega), by simp, ?_⟩
    rw [p15 f1 g [], p15 f2 g [], p15 f3 g [], p15 f4 g []]
    try rfl
  · refine ⟨by first | (simp [wordOk, -List.all_eq_true, hn, hs, hv, hc, hd, h45, h53, h61, h46, h118, h119, h122]; done) | (simp [wordOk, -List.all_eq_true, hn, hs, hv, hc, hd, h45, h53, h61, h46, h118, h119, h122]; omega), by simp, ?_⟩
    rw [p16 f1 g [], p16 f2 g [], p16 f3 g [], p16 f4 g []]
    try rfl
  · refine ⟨by first | (simp [wordOk, -List.all_eq_true, hn, hs, hv, hc, hd, h45, h53, h61, h46, h118, h119, h122]; done) | (simp [wordOk, -List.all_eq_true, hn, hs, hv, hc, hd, h45, h53, h61, h46, h118, h119, h122]; omega), by simp, ?_⟩
    rw [p17 f1 g [], p17 f2 g [], p17 f3 g [], p17 f4 g []]
    try rfl
  · refine ⟨by first | (simp [wordOk, -List.all_eq_true, hn, hs, hv, hc, hd, h45, h53, h61, h46, h118, h119, h122]; done) | (simp [wordOk, -List.all_eq_true, hn, hs, hv, hc, hd, h45, h53, h61, h46, h118, h119, h122]; omega), by simp, ?_⟩
    rw [p18 f1 g [], p18 f2 g [], p18 f3 g [], p18 f4 g []]
    try rfl
  · refine ⟨by first | (simp [wordOk, -List.all_eq_true, hn, hs, hv, hc, hd, h45, h53, h61, h46, h118, h119, h122]; done) | (simp [wordOk, -List.all_eq_true, hn, hs, hv, hc, hd, h45, h53, h61, h46, h118, h119, h122]; omega), by simp, ?_⟩
    rw [p19 f1 g [], p19 f2 g [], p19 f3 g [], p19 f4 g []]
    try rfl
  · refine ⟨by first | (simp [wordOk, -List.all_eq_true, hn, hs, hv, hc, hd, h45, h53, h61, h46, h118, h119, h122]; done) | (simp [wordOk, -List.all_eq_true, hn, hs, hv, hc, hd, h45, h53, h61, h46, h118, h119, h122]; omega), by simp, ?_⟩
    rw [p20 f1 g [], p20 f2 g [], p20 f3 g [], p20 f4 g []]
    try rfl
  · refine ⟨by first | (simp [wordOk, -List.all_eq_true, hn, hs, hv, hc, hd, h45, h53, h61, h46, h118, h119, h122]; done) | (simp [wordOk, -List.all_eq_true, hn, hs, hv, hc, hd, h45, h53, h61, h46, h118, h119, h122]; omega), by simp, ?_⟩
    rw [p21 f1 g vl, p21 f2 g vl, p21 f3 g vl, p21 f4 g vl]
    try rfl
  · refine ⟨by first | (simp [wordOk, -List.all_eq_true, hn, hs, hv, hc, hd, h45, h53, h61, h46, h118, h119, h122]; done) | (simp [wordOk, -List.all_eq_true, hn, hs, hv, hc, hd, h45, h53, h61, h46, h118, h119, h122]; omega), by simp, ?_⟩
    rw [p22 f1 g [], p22 f2 g [], p22 f3 g [], p22 f4 g []]
    try rfl
  · refine ⟨by first | (simp [wordOk, -List.all_eq_true, hn, hs, hv, hc, hd, h45, h53, h61, h46, h118, h119, h122]; done) | (simp [wordOk, -List.all_eq_true, hn, hs, hv, hc, hd, h45, h53, h61, h46, h118, h119, h122]; omega), by simp, ?_⟩
    rw [p23 f1 g [], p23 f2 g [], p23 f3 g [], p23 f4 g []]
    try rfl
  · refine ⟨by first | (simp [wordOk, -List.all_eq_true, hn, hs, hv, hc, hd, h45, h53, h61, h46, h118, h119, h122]; done) | (simp [wordOk, -List.all_eq_true, hn, hs, hv, hc, hd, h45, h53, h61, h46, h118, h119, h122]; omega), by simp, ?_⟩
    rw [p24 f1 g vl, p24 f2 g vl, p24 f3 g vl, p24 f4 g vl]
    try rfl
  · refine ⟨by first | (simp [wordOk, -List.all_eq_true, hn, hs, hv, hc, hd, h45, h53, h61, h46, h118, h119, h122]; done) | (simp [wordOk, -List.all_eq_true, hn, hs, hv, hc, hd, h45, h53, h61, h46, h118, h119, h122]; omega), by simp, ?_⟩
    rw [p25 f1 g [], p25 f2 g [], p25 f3 g [], p25 f4 g []]
    try rfl
theorem rows3_so : ∀ r ∈ rows3, (∀ l ∈ r.1, wordOk l = true) ∧ r.1.length ≤ 80 ∧ r.2 = [lastsF (gr3 nm c d) r.1] := by
  have c5 : c ≠ 53 := by have := g.c_; omega
  have d5 : d ≠ 53 := by have := g.d_; omega
  have c7 : c ≠ 55 := by have := g.c_; omega
  have d7 : d ≠ 55 := by have := g.d_; omega
  have hz := g.nz2 [121]
  have l5 : letterF (gr3 nm c d) [53] = some [122, 121] := by simp [letterF, gr3, List.filter, List.find?, c5, d5]
  have l7 : letterF (gr3 nm c d) [55] = none := by simp [letterF, gr3, List.filter, List.find?, c7, d7]
  have ky : kindOf (gr3 nm c d) [122, 121] = kFlag := by simp [kindOf, kindF, gr3, List.find?, hz]
  have f5 : mem sgFigure 53 = true := by decide +kernel
  have rn : readsNum (gr3 nm c d) = false := by simp [readsNum, gr3, f5]
  have mx : (gr3 nm c d).mixed = true := rfl
  have dl : ∀ n, dealOk (gr3 nm c d).pls n = true := fun n => by
    have h1 : arityCount (gr3 nm c d).pls aOne = 0 := by show arityCount [([105, 110], aMany)] aOne = 0; decide
    have h2 : arityCount (gr3 nm c d).pls aMany = 1 := by show arityCount [([105, 110], aMany)] aMany = 1; decide
    unfold dealOk
    rw [h1, h2]
    simp
  intro r hr
  simp only [rows3, List.mem_cons, List.not_mem_nil, or_false] at hr
  rcases hr with rfl | rfl | rfl | rfl | rfl | rfl
  · refine ⟨by decide +kernel, by simp, ?_⟩
    simp [lastsF, acceptedF, accF, lastF, lineF, wordF, rs0, dashed, valueless, giveF, placeF, lettersF, l5, l7, ky, rn, mx, dl]
  · refine ⟨by decide +kernel, by simp, ?_⟩
    simp [lastsF, acceptedF, accF, lastF, lineF, wordF, rs0, dashed, valueless, giveF, placeF, lettersF, l5, l7, ky, rn, mx, dl]
  · refine ⟨by decide +kernel, by simp, ?_⟩
    simp [lastsF, acceptedF, accF, lastF, lineF, wordF, rs0, dashed, valueless, giveF, placeF, lettersF, l5, l7, ky, rn, mx, dl]
  · refine ⟨by decide +kernel, by simp, ?_⟩
    simp [lastsF, acceptedF, accF, lastF, lineF, wordF, rs0, dashed, valueless, giveF, placeF, lettersF, l5, l7, ky, rn, mx, dl]
  · refine ⟨by decide +kernel, by simp, ?_⟩
    simp [lastsF, acceptedF, accF, lastF, lineF, wordF, rs0, dashed, valueless, giveF, placeF, lettersF, l5, l7, ky, rn, mx, dl]
  · refine ⟨by decide +kernel, by simp, ?_⟩
    simp [lastsF, acceptedF, accF, lastF, lineF, wordF, rs0, dashed, valueless, giveF, placeF, lettersF, l5, l7, ky, rn, mx, dl]
theorem rows0_so : ∀ r ∈ rows0 d, (∀ l ∈ r.1, wordOk l = true) ∧ r.1.length ≤ 80 ∧ r.2 = [lastsF (gr0 nm c d) r.1] := by
  have hd : d ≠ 45 := by have := g.d_; omega
  have hcd := g.cd
  have hz := g.nz
  have wd : mem sgWord d = true := (mem_az (by have := g.d_; omega)).2.1
  have w45 : mem sgWord 45 = true := by decide +kernel
  have hc := g.c_
  have hd1 := g.d_
  have ld : letterF (gr0 nm c d) [d] = some zz := by simp [letterF, gr0, List.filter, List.find?, hcd]
  have kz : kindOf (gr0 nm c d) zz = kCount := by simp [kindOf, kindF, gr0, List.find?, hz]
  have rn : readsNum (gr0 nm c d) = true := by simp [readsNum, gr0, (mem_az (x := c) (by omega)).2.2.2, (mem_az (x := d) (by omega)).2.2.2]
  have mx : (gr0 nm c d).mixed = true := rfl
  have d0 : dealOk (gr0 nm c d).pls 0 = true := by show dealOk [] 0 = true; decide
  have d1 : dealOk (gr0 nm c d).pls 1 = false := by show dealOk [] 1 = false; decide
  intro r hr
  simp only [rows0, List.mem_cons, List.not_mem_nil, or_false] at hr
  rcases hr with rfl | rfl | rfl | rfl
  · refine ⟨by decide +kernel, by simp, ?_⟩
    simp [lastsF, acceptedF, accF, lastF, lineF, wordF, rs0, dashed, valueless, giveF, placeF, lettersF, ld, kz, rn, mx, d0, d1, n5, hd, g.numd]
  · refine ⟨by decide +kernel, by simp, ?_⟩
    simp [lastsF, acceptedF, accF, lastF, lineF, wordF, rs0, dashed, valueless, giveF, placeF, lettersF, ld, kz, rn, mx, d0, d1, n5, hd, g.numd]
  · refine ⟨by decide +kernel, by simp, ?_⟩
    simp [lastsF, acceptedF, accF, lastF, lineF, wordF, rs0, dashed, valueless, giveF, placeF, lettersF, ld, kz, rn, mx, d0, d1, n5, hd, g.numd]
  · refine ⟨by simp [wordOk, wd, w45], by simp, ?_⟩
    simp [lastsF, acceptedF, accF, lastF, lineF, wordF, rs0, dashed, valueless, giveF, placeF, lettersF, ld, kz, rn, mx, d0, d1, n5, hd, g.numd]
end
end KL

set_option Elab.async false
set_option maxRecDepth 100000
set_option maxHeartbeats 4000000
namespace K9
open PySem PySem.Spec PyProof.Rows L2 SX Evl KL
section
variable {P : Program} {w : World} {K : PySem.W.Frag} {mg : Str → Option Value} {base : Heap} {f : Addr} {fd : FuncData} {aK aA aV aL C : Addr}
abbrev s_law : Stmt := top 50
theorem sc_law : FnScope ["script", "state", "letters", "turn", "name", "short", "at", "value", "c", "d", "one", "other", "places", "some", "row", "told", "figure", "kept", "line", "due", "k", "modes"] ["script"] (C8.fnScope s_law) := C8.fnScope_by (by decide +kernel)
theorem ev_row1 {σ : L2.St} {H : Hp} {ta tb : TA} {r : KL.Row} (h1 : EvA ta σ H (r.1.map ss)) (h2 : EvA tb σ H (r.2.map V.bl)) (hz : r.1.length ≤ 100) (hz2 : r.2.length = 1 := by rfl) : EvR K (tTup (tCons (tTup ta) tb)) σ H r := fun H1 e Q q => by
  have key : tTup ta σ H1 (fun x H2 => tb σ H2 fun xs H3 => (x :: xs).length ≤ sizeLine ∧ ∀ p, H3 p = none → Q (.ref p) (upd H3 p (.tup (x :: xs)))) := by
    refine eu_tup h1 (by rw [List.length_map]; omega) H1 e _ fun p H2 _ e2 hp => ?_
    refine h2 H2 (e.trans e2) _ fun H3 e3 => ?_
    refine ⟨sz_of (by simp; omega), fun a ha => ?_⟩
    exact q a _ ((e2.trans e3).trans (Ex.new ha)) ⟨p, st_of upd_same, ex_t (e3.trans (Ex.new ha)) (st_of hp)⟩
  exact key
theorem ta_rows {σ : L2.St} {H : Hp} {te : TE} {rs : List KL.Row} {k : List V → Hp → Prop} (h : EvRL K te σ H rs) (q : ∀ R H2, Ex H H2 → RowsL K H2 R rs → k [.ref R] H2) : tCons te tNil σ H k :=
  h H (Ex.refl _) _ fun R H2 e r => q R H2 e r
theorem tf_rows {σ : L2.St} {H : Hp} {te : TE} {g : TG} {tb : TS} {D : Ends} {rs : List KL.Row} (h : EvRL K te σ H rs) (q : ∀ R H2, Ex H H2 → RowsL K H2 R rs → tFor (fun _ _ Rk => Rk (Itl K R) H2) g tb D σ H2) : tFor (iList K te) g tb D σ H :=
  h H (Ex.refl _) _ fun R H2 e r => by
    obtain ⟨as, r1, _⟩ := id r
    exact ⟨R, rfl, ⟨_, sq_of r1⟩, q R H2 e r⟩
theorem ifF {c : Bool} {A B : Prop} (h : c = false) (b : B) : if c = true then A else B := by
  rw [h]
  exact b
theorem ok_law (F : C8.Def K mg "law" s_law f fd) (b : Binds K fd ["script"] []) (B : Blt mg) (C__law_begin : C8.Cal P w K mg base 1 "_law_begin" (spBegin K) []) (C__law_draw : C8.Cal P w K mg base 2 "_law_draw" spDraw []) (C__law_rows : C8.Cal P w K mg base 1 "_law_rows" (spRows K) [])
    (C_lasts : C8.Cal P w K mg base 6 "lasts" (spLasts K) []) : CalG P w K mg base 7 "law" (spLaw09 K) :=
  calg F b sc_law (fun vs H Q E h => by obtain ⟨_, _, rfl, _⟩ := h; rfl) fun cdv A outer s H vs Q E gd hr h => by
    have nd := sc_law.nd
    have hu := hu_of hr
    obtain ⟨a, ns, rfl, hS, hl, q⟩ := h
    refine ⟨_, (pss_cons (ps_set (i := 1) nd rfl (by first | exact Or.inl rfl | exact Or.inr rfl) (C8.pe_c C__law_begin hr (by decide) rfl (pa_cons (pv 0) pa_nil)))
      (pss_cons (ps_set (i := 2) nd rfl (by first | exact Or.inl rfl | exact Or.inr rfl) pe_str)
      (pss_cons (ps_for PassesOwn.never rfl (pi_range1 (by rfl) B.range_ (pa_cons pe_int pa_nil)) (pg_name (i := 3) nd rfl (by first | exact Or.inl rfl | exact Or.inr rfl)) (pss_cons (ps_set (i := 4) nd rfl (by first | exact Or.inl rfl | exact Or.inr rfl) (pe_join pe_str (pe_lc (own := [("k", 20)]) rfl nd (pi_range1 (by rfl) B.range_ (pa_cons (pe_op op_add pe_int (C8.pe_c C__law_draw hr (by decide) rfl (pa_cons (pv 1) (pa_cons pe_int pa_nil)))) pa_nil)) (blkOk_by (N := ["script", "state", "letters", "turn", "name", "short", "at", "value", "c", "d", "one", "other", "places", "some", "row", "told", "figure", "kept", "line", "due", "k", "modes"]) (sc := C8.fnScope s_law) (by decide +kernel)) (fun _ _ _ _ _ => (pg_name (i := 20) nd rfl (by first | exact Or.inl rfl | exact Or.inr rfl))) (fun _ _ _ _ _ => pts_nil) (fun _ _ _ _ _ => (pe_ix ix_str (pv 2) (C8.pe_c C__law_draw hr (by decide) rfl (pa_cons (pv 1) (pa_cons pe_int pa_nil))) (fun _ _ => rfl))))))
      (pss_cons (ps_set (i := 5) nd rfl (by first | exact Or.inl rfl | exact Or.inr rfl) (pe_slice C8.sl_txt (pv 4) po_none (po_some (pe_op op_add pe_int (C8.pe_c C__law_draw hr (by decide) rfl (pa_cons (pv 1) (pa_cons (pe_op op_sub (pe_callB (id := "len") call_len_str (by rfl) B.len_ (by decide +kernel) (pa_cons (pv 4) pa_nil)) pe_int) pa_nil)))))))
      (pss_cons (ps_par (i := 6) (j := 7) rfl nd rfl rfl (by decide) rfl rfl (pa_cons (C8.pe_c C__law_draw hr (by decide) rfl (pa_cons (pv 1) (pa_cons pe_int pa_nil))) (pa_cons (pe_ix ix_list (pe_lst (pa_cons pe_str (pa_cons pe_str (pa_cons pe_str (pa_cons (pe_op op_add_str pe_str (pv 5)) (pa_cons pe_str pa_nil)))))) (C8.pe_c C__law_draw hr (by decide) rfl (pa_cons (pv 1) (pa_cons pe_int pa_nil))) (fun _ _ => rfl)) pa_nil)) (by rfl))
      (pss_cons (ps_par (i := 8) (j := 9) rfl nd rfl rfl (by decide) rfl rfl (pa_cons (pe_ix ix_str (pv 2) (pv 6) (fun _ _ => rfl)) (pa_cons (pe_ix ix_str (pv 2) (pe_op op_modN (pe_callTy (T := "int") call_int1 (by rfl) B.int_ (by decide +kernel) (pa_cons (pe_op op_add (pe_op op_add (pv 6) pe_int) (C8.pe_c C__law_draw hr (by decide) rfl (pa_cons (pv 1) (pa_cons pe_int pa_nil)))) pa_nil)) pe_int) (fun _ _ => rfl)) pa_nil)) (by rfl))
      (C8.pss_cut (ps_asg (pe_tup (pa_cons (pe_tup (pa_cons (pv 4) (pa_cons (pv 8) (pa_cons pe_str pa_nil)))) (pa_cons (pe_tup (pa_cons pe_str (pa_cons (pv 9) (pa_cons pe_str pa_nil)))) (pa_cons (pe_tup (pa_cons (pe_tup (pa_cons pe_str (pa_cons pe_str pa_nil))) pa_nil)) pa_nil)))) (pg_tup rfl (pgs_cons (pg_name (i := 10) nd rfl (by first | exact Or.inl rfl | exact Or.inr rfl)) (pgs_cons (pg_name (i := 11) nd rfl (by first | exact Or.inl rfl | exact Or.inr rfl)) (pgs_cons (pg_name (i := 12) nd rfl (by first | exact Or.inl rfl | exact Or.inr rfl)) pgs_nil)))))
      (pss_cons (ps_set (i := 13) nd rfl (by first | exact Or.inl rfl | exact Or.inr rfl) (pe_lst (pa_cons (pe_tup (pa_cons pe_bl (pa_cons pe_bl (pa_cons pe_bl pa_nil)))) (pa_cons (pe_tup (pa_cons pe_bl (pa_cons pe_bl (pa_cons pe_bl pa_nil)))) (pa_cons (pe_tup (pa_cons pe_bl (pa_cons pe_bl (pa_cons pe_bl pa_nil)))) (pa_cons (pe_tup (pa_cons pe_bl (pa_cons pe_bl (pa_cons pe_bl pa_nil)))) pa_nil))))))
      (C8.pss_cut (ps_for PassesOwn.never rfl (pi_list (C8.pe_c C__law_rows hr (by decide) rfl (pa_cons (pv 10) (pa_cons (pv 11) (pa_cons (pv 5) (pa_cons (pv 7) pa_nil)))))) (pg_name (i := 14) nd rfl (by first | exact Or.inl rfl | exact Or.inr rfl)) (pss_cons (ps_setLc (i := 15) (own := [("modes", 21)]) rfl nd rfl rfl (sw_true rfl rfl rfl (by decide +kernel)) (pi_list (pv 13)) (blkOk_by (N := ["script", "state", "letters", "turn", "name", "short", "at", "value", "c", "d", "one", "other", "places", "some", "row", "told", "figure", "kept", "line", "due", "k", "modes"]) (sc := C8.fnScope s_law) (by decide +kernel)) (fun _ _ _ _ _ => (pg_name (i := 21) nd rfl (by first | exact Or.inl rfl | exact Or.inr rfl))) (fun _ _ _ _ _ => pts_nil) (fun _ _ _ _ _ => (C8.pe_c C_lasts hr (by decide) rfl (pa_cons (pe_tup (pa_cons (pe_tup (pa_cons (pv 10) (pa_cons (pv 11) pa_nil))) (pa_cons (pv 12) (pa_cons (pv 21) pa_nil)))) (pa_cons (pe_ix (r := rIxT K) ix_tup (pv 14) pe_int (fun _ _ => rfl)) pa_nil)))))
      (pss_one (ps_if (pt_cmpR op_ne (pe_callB (id := "repr") (KL.call_rep gd hr) (by rfl) B.repr_ (by decide +kernel) (pa_cons (pv 15) pa_nil)) (pe_callB (id := "repr") (KL.call_rep gd hr) (by rfl) B.repr_ (by decide +kernel) (pa_cons (pe_callTy (T := "list") call_list_of (by rfl) B.list_ (by decide +kernel) (pa_cons (pe_slice sl_tupA (pv 14) (po_some pe_int) po_none) pa_nil)) pa_nil)) (nomark _)) (pss_one (ps_ret pe_bl)) pss_nil))))
      (pss_cons (ps_par (i := 16) (j := 17) rfl nd rfl rfl (by decide) rfl rfl (pa_cons (pe_tup (pa_cons pe_str (pa_cons pe_str (pa_cons pe_str pa_nil)))) (pa_cons (pe_lst (pa_cons (pe_tup (pa_cons (pe_tup (pa_cons pe_str pa_nil)) (pa_cons pe_bl pa_nil))) (pa_cons (pe_tup (pa_cons (pe_tup (pa_cons pe_str (pa_cons pe_str pa_nil))) (pa_cons pe_bl pa_nil))) (pa_cons (pe_tup (pa_cons (pe_tup (pa_cons pe_str pa_nil)) (pa_cons pe_bl pa_nil))) pa_nil)))) pa_nil)) (by rfl))
      (C8.pss_cut (ps_for PassesOwn.never rfl (pi_list (pe_op op_cat (pv 17) (pe_lst (pa_cons (pe_tup (pa_cons (pe_tup (pa_cons pe_str (pa_cons pe_str pa_nil))) (pa_cons pe_bl pa_nil))) (pa_cons (pe_tup (pa_cons (pe_tup (pa_cons pe_str (pa_cons pe_str pa_nil))) (pa_cons pe_bl pa_nil))) (pa_cons (pe_tup (pa_cons (pe_tup (pa_cons pe_str (pa_cons pe_str pa_nil))) (pa_cons pe_bl pa_nil))) pa_nil)))))) (pg_tup rfl (pgs_cons (pg_name (i := 18) nd rfl (by first | exact Or.inl rfl | exact Or.inr rfl)) (pgs_cons (pg_name (i := 19) nd rfl (by first | exact Or.inl rfl | exact Or.inr rfl)) pgs_nil))) (pss_one (ps_if (pt_cmpR op_ne (pe_callB (id := "repr") KL.call_repB (by rfl) B.repr_ (by decide +kernel) (pa_cons (C8.pe_c C_lasts hr (by decide) rfl (pa_cons (pe_tup (pa_cons (pe_tup (pa_cons (pv 10) (pa_cons (pv 11) (pa_cons (pv 16) pa_nil)))) (pa_cons (pv 12) (pa_cons (pe_tup (pa_cons pe_bl (pa_cons pe_bl (pa_cons pe_bl pa_nil)))) pa_nil)))) (pa_cons (pv 18) pa_nil))) pa_nil)) (pe_callB (id := "repr") KL.call_repB (by rfl) B.repr_ (by decide +kernel) (pa_cons (pv 19) pa_nil)) (nomark _)) (pss_one (ps_ret pe_bl)) pss_nil)))
      (pss_one (ps_for PassesOwn.never rfl (pi_list (pe_lst (pa_cons (pe_tup (pa_cons (pe_tup pa_nil) (pa_cons pe_bl pa_nil))) (pa_cons (pe_tup (pa_cons (pe_tup (pa_cons pe_str pa_nil)) (pa_cons pe_bl pa_nil))) (pa_cons (pe_tup (pa_cons (pe_tup (pa_cons pe_str pa_nil)) (pa_cons pe_bl pa_nil))) (pa_cons (pe_tup (pa_cons (pe_tup (pa_cons (pe_op op_add_str pe_str (pv 9)) pa_nil)) (pa_cons pe_bl pa_nil))) pa_nil)))))) (pg_tup rfl (pgs_cons (pg_name (i := 18) nd rfl (by first | exact Or.inl rfl | exact Or.inr rfl)) (pgs_cons (pg_name (i := 19) nd rfl (by first | exact Or.inl rfl | exact Or.inr rfl)) pgs_nil))) (pss_one (ps_if (pt_cmpR op_ne (pe_callB (id := "repr") KL.call_repB (by rfl) B.repr_ (by decide +kernel) (pa_cons (C8.pe_c C_lasts hr (by decide) rfl (pa_cons (pe_tup (pa_cons (pe_tup (pa_cons (pv 10) (pa_cons (pv 11) pa_nil))) (pa_cons (pe_tup pa_nil) (pa_cons (pe_tup (pa_cons pe_bl (pa_cons pe_bl (pa_cons pe_bl pa_nil)))) pa_nil)))) (pa_cons (pv 18) pa_nil))) pa_nil)) (pe_callB (id := "repr") KL.call_repB (by rfl) B.repr_ (by decide +kernel) (pa_cons (pv 19) pa_nil)) (nomark _)) (pss_one (ps_ret pe_bl)) pss_nil))))))))))))))
      (pss_one (ps_ret pe_bl))))), ?_⟩
    refine ⟨_, rfl, a, ns, rfl, hS, hl, fun st dL H1 S1 e1 nst ndL => ?_⟩
    have nd0 : ∀ {H : Hp} {n : Int}, StAt H st dL n → ∀ {p : Addr}, H p = none → p ≠ st ∧ p ≠ dL := fun S p hp => by
      obtain ⟨⟨dC, cs, ls, g1, g2, g3, _⟩, _⟩ := S
      refine And.intro (fun z => ?_) (fun z => ?_)
      · rw [z, g1] at hp
        cases hp
      · rw [z, g3] at hp
        cases hp
    dsimp only
    refine ⟨3, rfl, by decide, by decide, for_it (walk_range (lo := 0) (n := 3)) (fun i σ H => ∃ n x0 x3 x4 x5 x6 x7 x8 x9 x10 x11 x12 x13 x14 x15 x16 x17 x18 x19 x20 x21, σ = [x0, some (.ref st), some (.str lt25), x3, x4, x5, x6, x7, x8, x9, x10, x11, x12, x13, x14, x15, x16, x17, x18, x19, x20, x21] ∧ StAt H st dL n ∧ n ≤ 100 * i)
      ⟨0, _, _, _, _, _, _, _, _, _, _, _, _, _, _, _, _, _, _, _, _, rfl, S1, by decide⟩ (fun _ _ _ _ _ => trivial) ?_ ?_⟩
    · rintro i x σ H2 H3 hi ⟨n, x0, x3, x4, x5, x6, x7, x8, x9, x10, x11, x12, x13, x14, x15, x16, x17, x18, x19, x20, x21, rfl, S2, hn⟩ ⟨rfl, rfl⟩
      -- name
      dsimp only
      refine ⟨⟨_, rfl⟩, _, rfl, st, dL, n, 11, rfl, S2, by omega, by decide, by decide, fun r1 H4 r10 r11 S4 ch4 => ⟨_, _, rfl, rfl, _, rfl, by omega, by omega, fun D hD => ?_⟩⟩
      obtain ⟨m, hm⟩ : ∃ m : Nat, (2 + r1).toNat = m := ⟨_, rfl⟩
      rw [hm]
      obtain ⟨nDs, nDL⟩ := nd0 S4 hD
      refine lc_it (walk_range (lo := 0) (n := m)) (fun j H => ∃ l : List Nat, H D = some (.lst (l.map fun c => ss [c])) ∧ l.length = j ∧ (∀ x ∈ l, 97 ≤ x ∧ x ≤ 121) ∧ StAt H st dL (n + 1 + j))
        ⟨[], upd_same, rfl, fun _ h => absurd h List.not_mem_nil, by simpa using S4.mono (Ex.new hD)⟩ (fun _ _ _ _ => trivial) ?_ ?_
      · rintro j x H5 H6 hj ⟨l, hl1, hl2, hl3, S5⟩ ⟨rfl, rfl⟩
        refine ⟨rfl, ?_⟩
        refine iteT (B := ∃ l : List Nat, H6 D = some (.lst (l.map fun c => ss [c])) ∧ l.length = j + 1 ∧ (∀ x ∈ l, 97 ≤ x ∧ x ≤ 121) ∧ StAt H6 st dL (n + 1 + ((j + 1 : Nat) : Int))) ?_
        refine ⟨_, rfl, _, rfl, st, dL, n + 1 + j, 25, rfl, S5, by omega, by decide, by decide, fun r2 H7 r20 r21 S7 ch7 => ?_⟩
        obtain ⟨x, hx1, hx2⟩ := lt_at r20 r21
        refine ⟨lt25, r2, x, rfl, rfl, sz_of (by decide +kernel), hx1, _, ch7.keep hl1 nDs nDL, small1000 (by rw [List.length_map]; omega), l ++ [x], by rw [upd_same, List.map_append]; rfl, by rw [List.length_append, hl2]; rfl, fun y hy => ?_, ?_⟩
        · rcases List.mem_append.mp hy with z | z
          · exact hl3 y z
          · rw [List.mem_singleton.mp z]; omega
        · have z := S7
          obtain ⟨⟨dC, cs, ls, g1, g2, g3, g4⟩, g5⟩ := z
          rw [show n + 1 + ((j + 1 : Nat) : Int) = n + 1 + (j : Int) + 1 by omega]
          refine ⟨⟨dC, cs, ls, by rw [upd_ne (Ne.symm nDs)]; exact g1, ?_, by rw [upd_ne (Ne.symm nDL)]; exact g3, g4⟩, g5⟩
          rw [upd_ne (lst_ne (ch7.keep hl1 nDs nDL) g2 g4.2.2.1).symm]
          exact g2
      · rintro H5 ⟨nm, hl1, hl2, hl3, S5⟩
        have ln : 2 ≤ nm.length ∧ nm.length ≤ 12 := by omega
        refine ⟨("" : Str), D, nm.map fun c => S [c], rfl, rfl, .inl (sq_of (by rw [hl1, List.map_map]; rfl)), ?_, ?_⟩
        · rw [sum1, lit_nil]
          show nm.length + _ * 0 ≤ _
          omega
        rw [join_S1]
        -- short
        refine ⟨_, rfl, _, rfl, _, rfl, S nm, rfl, len1000 (by omega), _, _, rfl, rfl, st, dL, _, _, rfl, S5, by omega, ?_, ?_, fun r2 H6 r20 r21 S6 ch6 => ?_⟩
        · rw [S_len]; omega
        · rw [S_len]; omega
        refine ⟨_, _, rfl, rfl, _, rfl, _, rfl, len1000 (by omega), ?_⟩
        rw [S_len] at r21
        rw [slice_to (by omega)]
        obtain ⟨k, hk⟩ : ∃ k : Nat, (1 + r2).toNat = k := ⟨_, rfl⟩
        rw [hk]
        obtain ⟨sh, hsh⟩ : ∃ sh, nm.take k = sh := ⟨_, rfl⟩
        rw [hsh]
        have lsh : sh.length ≤ 12 := by rw [← hsh, List.length_take]; omega
        -- at, value
        dsimp only
        refine ⟨_, rfl, st, dL, _, 25, rfl, S6, by omega, by decide, by decide, fun r3 H7 r30 r31 S7 ch7 => ?_⟩
        refine ⟨_, rfl, _, _, rfl, rfl, by rw [lit_dd, S_len, S_len]; exact sz_of (by show 2 + sh.length ≤ 100000; omega), sz_of (by show 5 ≤ 100000; decide), fun p hp => ?_⟩
        rw [lit_dd, S_cat]
        obtain ⟨nps, npL⟩ := nd0 S7 hp
        refine ⟨_, rfl, st, dL, _, 5, rfl, S7.mono (Ex.new hp), by omega, by decide, by decide, fun r4 H8 r40 r41 S8 ch8 => ?_⟩
        have hp8 := ch8.keep upd_same nps npL
        obtain ⟨vl, hat, hvl⟩ : ∃ vl, atI [V.str "v", V.str "", V.str "-5", ss ([45, 45] ++ sh), V.str "a=b"] r4 = some (ss vl) ∧ (vl = [118] ∨ vl = [] ∨ vl = [45, 53] ∨ vl = [45, 45] ++ sh ∨ vl = [97, 61, 98]) := by
          obtain rfl | rfl | rfl | rfl | rfl : r4 = 0 ∨ r4 = 1 ∨ r4 = 2 ∨ r4 = 3 ∨ r4 = 4 := by omega
          · exact ⟨[118], (atI_nat (j := 0) rfl).trans (congrArg some (by decide +kernel)), .inl rfl⟩
          · exact ⟨[], (atI_nat (j := 1) rfl).trans (congrArg some (by decide +kernel)), .inr (.inl rfl)⟩
          · exact ⟨[45, 53], (atI_nat (j := 2) rfl).trans (congrArg some (by decide +kernel)), .inr (.inr (.inl rfl))⟩
          · exact ⟨[45, 45] ++ sh, atI_nat (j := 3) rfl, .inr (.inr (.inr (.inl rfl)))⟩
          · exact ⟨[97, 61, 98], (atI_nat (j := 4) rfl).trans (congrArg some (by decide +kernel)), .inr (.inr (.inr (.inr rfl)))⟩
        refine ⟨p, _, r4, ss vl, rfl, rfl, sq_of hp8, hat, _, _, rfl, ?_⟩
        -- c, d
        obtain ⟨cc, hc1, hc2⟩ := lt_at r30 r31
        dsimp only
        refine ⟨_, rfl, _, rfl, lt25, r3, cc, rfl, rfl, sz_of (by decide +kernel), hc1, _, rfl, _, rfl, _, _, rfl, rfl, _, rfl, st, dL, _, 24, rfl, S8, by omega, by decide, by decide, fun r5 H9 r50 r51 S9 ch9 => ?_⟩
        have z25 : (25 : Int) ≠ 0 := by decide
        refine ⟨_, _, rfl, rfl, .inl ⟨_, rfl, _, _, rfl, rfl, z25, ?_⟩⟩
        have fb := fmod_bounds (r3 + 1 + r5) 25 (by decide)
        obtain ⟨dd, hd1, hd2⟩ := lt_at fb.1 fb.2
        refine ⟨lt25, _, dd, rfl, rfl, sz_of (by decide +kernel), hd1, _, _, rfl, ?_⟩
        have hcd : cc ≠ dd := by
          intro e
          have h1 : (r3 + 1 + r5).fmod 25 = (r3 + 1 + r5) % 25 := Int.fmod_eq_emod_of_nonneg _ (by decide)
          rw [h1] at hd2
          omega
        have good : Good nm sh vl cc dd := ⟨ln.1, ln.2, hl3, ⟨k, by omega, by omega, hsh.symm⟩, by omega, by omega, hcd, hvl⟩
        obtain ⟨n9, hn9⟩ : ∃ n9 : Int, n9 ≤ 100 * ((i + 1 : Nat) : Int) ∧ StAt H9 st dL n9 := ⟨_, by omega, S9⟩
        dsimp only
        refine ⟨Mid K st dL n9, ?_, ?_⟩
        · -- one, other, places
          have sz3 : 3 ≤ sizeLine := by decide
          refine ⟨_, rfl, _, rfl, sz3, fun p1 hp1 => ⟨_, rfl, sz3, fun p2 hp2 => ⟨by show 2 ≤ sizeLine; decide, fun p4 hp4 => ⟨by show 1 ≤ sizeLine; decide, fun p3 hp3 => ⟨sz3, fun p5 hp5 => ?_⟩⟩⟩⟩⟩
          refine ⟨p5, _, rfl, st_of upd_same, rfl, _, _, rfl, _, _, rfl, _, _, rfl, rfl, ?_⟩
          have g1 : Ex H9 (upd H9 p1 _) := Ex.new (o := .tup [ss nm, ss [cc], .str "last"]) hp1
          have g2 := Ex.new (o := HO.tup [V.str "zz", ss [dd], V.str "count"]) hp2
          have g4 := Ex.new (o := HO.tup [V.str "in", V.str "many"]) hp4
          have g3 := Ex.new (o := HO.tup [V.ref p4]) hp3
          have g5 := Ex.new (o := HO.tup [V.ref p1, V.ref p2, V.ref p3]) hp5
          refine ⟨_, _, _, _, _, _, _, _, _, _, _, _, nm, sh, vl, cc, dd, p1, p2, p3, rfl, hn9.2.mono ((((g1.trans g2).trans g4).trans g3).trans g5), ⟨?_, ?_, p4, ?_, ?_⟩, good⟩
          · rw [show ([ss nm, ss [cc], ss kLast] : List V) = [ss nm, ss [cc], .str "last"] by rw [lit_last]]
            exact ex_t (((g2.trans g4).trans g3).trans g5) (st_of upd_same)
          · rw [show ([ss zz, ss [dd], ss kCount] : List V) = [.str "zz", ss [dd], .str "count"] by rw [lit_count, lit_zz]]
            exact ex_t ((g4.trans g3).trans g5) (st_of upd_same)
          · exact ex_t g5 (st_of upd_same)
          · rw [show ([ss [105, 110], ss aMany] : List V) = [.str "in", .str "many"] by rw [lit_many, lit_in]]
            exact ex_t (g3.trans g5) (st_of upd_same)
        · rintro σ1 K1 ⟨y0, y3, y6, y13, y14, y15, y16, y17, y18, y19, y20, y21, nm, sh, vl, c, d, a1, a2, ap, rfl, T1, cx, gd2⟩
          have nl : nm.length ≤ 12 := gd2.n12
          have sz3 : 3 ≤ sizeLine := by decide
          have sz2 : 2 ≤ sizeLine := by decide
          have lsh : sh.length ≤ 12 := by
            obtain ⟨k, _, _, rfl⟩ := gd2.sh_
            rw [List.length_take]
            omega
          have lvl : vl.length ≤ 30 := by
            rcases gd2.vl_ with e | e | e | e | e <;> rw [e]
            · decide
            · decide
            · decide
            · rw [List.length_append]
              show 2 + sh.length ≤ 30
              omega
            · decide
          -- some
          try dsimp only
          refine ⟨sz3, fun m1 hm1 => ⟨sz3, fun m2 hm2 => ⟨sz3, fun m3 hm3 => ⟨sz3, fun m4 hm4 => ⟨by show 4 ≤ sizeLine; decide, fun L hL => ?_⟩⟩⟩⟩⟩
          have z1 := Ex.new (o := HO.tup [V.bl true, V.bl true, V.bl true]) hm1
          have z2 := Ex.new (o := HO.tup [V.bl true, V.bl false, V.bl true]) hm2
          have z3 := Ex.new (o := HO.tup [V.bl true, V.bl true, V.bl false]) hm3
          have z4 := Ex.new (o := HO.tup [V.bl false, V.bl true, V.bl true]) hm4
          have z5 := Ex.new (o := HO.lst [V.ref m1, V.ref m2, V.ref m3, V.ref m4]) hL
          have q1 := (((z2.trans z3).trans z4).trans z5) _ _ (upd_same (a := m1))
          have q2 := ((z3.trans z4).trans z5) _ _ (upd_same (a := m2))
          have q3 := (z4.trans z5) _ _ (upd_same (a := m3))
          have q4 := z5 _ _ (upd_same (a := m4))
          have qL := upd_same (H := upd (upd (upd (upd K1 m1 (.tup [V.bl true, V.bl true, V.bl true])) m2 (.tup [V.bl true, V.bl false, V.bl true])) m3 (.tup [V.bl true, V.bl true, V.bl false])) m4 (.tup [V.bl false, V.bl true, V.bl true])) (a := L) (o := HO.lst [V.ref m1, V.ref m2, V.ref m3, V.ref m4])
          have zA := (((z1.trans z2).trans z3).trans z4).trans z5
          generalize hK2 : upd (upd (upd (upd (upd K1 m1 _) m2 _) m3 _) m4 _) L _ = K2 at q1 q2 q3 q4 qL zA ⊢
          have cx2 := cx.mono zA
          have T2 := T1.mono zA
          have nl5 : ([45, 45] ++ nm).length ≤ 20 := by rw [List.length_append]; show 2 + nm.length ≤ 20; omega
          refine ⟨Mid K st dL n9, ?_, ?_⟩
          · refine ⟨_, rfl, _, rfl, _, rfl, _, rfl, a1, a2, nm, [c], [d], sh, vl, zz, kLast, kCount, rfl, cx2.t1, cx2.t2, by omega, Nat.le_refl _, Nat.le_refl _, by omega, by omega, by decide, fun R K3 e3 hR => ?_⟩
            obtain ⟨as, hR1, hR2⟩ := hR
            have ln : as.length = (rowsF ([45, 45] ++ nm) [c] [d] sh vl zz).length := hR2.length
            have cx3 := cx2.mono e3
            refine ⟨R, rfl, ⟨_, sq_of hR1⟩, for_it (L2.walk_list (K := K) (a := R) (xs := as.map V.ref)) (fun i σ H => ∃ z14 z15 z21, σ = [y0, some (.ref st), some (.str lt25), y3, some (ss nm), some (ss sh), y6, some (ss vl), some (ss [c]), some (ss [d]), some (.ref a1), some (.ref a2), some (.ref ap), some (.ref L), z14, z15, y16, y17, y18, y19, y20, z21] ∧ Ex K3 H)
              ⟨_, _, _, rfl, Ex.refl _⟩ (fun i σ H _ ⟨_, _, _, _, e⟩ => sq_of (e _ _ hR1)) ?_ ?_⟩
            · rintro i x σ H4 H5 hi ⟨z14, z15, z21, rfl, e4⟩ ⟨rfl, hx⟩
              have hi' : i < as.length := by simpa using hi
              rw [List.getElem?_map, List.getElem?_eq_getElem hi'] at hx
              obtain rfl : V.ref as[i] = x := Option.some.inj hx
              obtain ⟨r, hr, hra⟩ := L2.paired_get hR2 (List.getElem?_eq_getElem hi')
              obtain ⟨bb, hb1, hb2⟩ := hra.mono e4
              have cx4 := cx3.mono e4
              have e24 := e3.trans e4
              obtain ⟨rw_, rlen, rfl4⟩ := rows_so gd2 r (List.mem_of_getElem? hr)
              refine ⟨_, rfl, L, rfl, ⟨_, sq_of (e24 _ _ qL)⟩, fun D hD => ?_⟩
              refine lc_ys (L2.walk_list (K := K) (a := L) (xs := [.ref m1, .ref m2, .ref m3, .ref m4])) [(m1, true, true, true), (m2, true, false, true), (m3, true, true, false), (m4, false, true, true)] rfl (by show 4 ≤ 100000; decide) (fun _ => true) (fun y => .bl (lastsF (grF nm c d y.2.1 y.2.2.1 y.2.2.2) r.1)) hD (fun H2 e2 => sq_of (e2 _ _ (e24 _ _ qL))) ?_ ?_
              · rintro j y x H6 H7 hy e6 ⟨rfl, hx⟩ Z N hz _
                have e26 := e24.trans e6
                have key : V.ref y.1 = x ∧ SqT K H7 y.1 [.bl y.2.1, .bl y.2.2.1, .bl y.2.2.2] := by
                  rcases j with _ | _ | _ | _ | j
                  · obtain rfl : (m1, true, true, true) = y := Option.some.inj hy
                    exact ⟨Option.some.inj hx, st_of (e26 _ _ q1)⟩
                  · obtain rfl : (m2, true, false, true) = y := Option.some.inj hy
                    exact ⟨Option.some.inj hx, st_of (e26 _ _ q2)⟩
                  · obtain rfl : (m3, true, true, false) = y := Option.some.inj hy
                    exact ⟨Option.some.inj hx, st_of (e26 _ _ q3)⟩
                  · obtain rfl : (m4, false, true, true) = y := Option.some.inj hy
                    exact ⟨Option.some.inj hx, st_of (e26 _ _ q4)⟩
                  · exact absurd hy (by simp)
                obtain ⟨rfl, hm⟩ := key
                refine ⟨rfl, ?_⟩
                refine ⟨_, rfl, _, rfl, sz2, fun t1 ht1 => ⟨_, rfl, _, rfl, sz3, fun t2 ht2 => ?_⟩⟩
                have f1 := Ex.new (o := HO.tup [V.ref a1, V.ref a2]) ht1
                have f2 := Ex.new (o := HO.tup [V.ref t1, V.ref ap, V.ref y.1]) ht2
                refine ⟨_, rfl, as[i], _, 0, .ref bb, rfl, rfl, ex_t ((e6.trans f1).trans f2) hb1, atI_nat (j := 0) rfl, rfl, .bl (lastsF (grF nm c d y.2.1 y.2.2.1 y.2.2.2) r.1), ⟨grF nm c d y.2.1 y.2.2.1 y.2.2.2, t2, bb, r.1, rfl, ?_, gr_ok gd2 _ _ _, ex_t ((e6.trans f1).trans f2) hb2, rlen, rw_, rfl⟩, fun H8 e8 => hz H8 ((f1.trans f2).trans e8) rfl⟩
                exact (cx4.mono ((e6.trans f1).trans f2)).gr (ex_t f2 (st_of upd_same)) (st_of upd_same) (ex_t (f1.trans f2) hm)
              · intro H6 e6 hDl
                have hDl : H6 D = some (.lst (r.2.map V.bl)) := by rw [hDl, rfl4]; rfl
                obtain ⟨s1, s2, s3, s4⟩ : (PyData.list (r.2.map PyData.bool)).showable = true ∧ (PyData.list (r.2.map PyData.bool)).depth ≤ 60 ∧ (PyData.list (r.2.map PyData.bool)).hasDict = false ∧ (PyData.list (r.2.map PyData.bool)).shown.length ≤ sizeLine := by rw [rfl4]; exact show4 _ _ _ _
                refine ⟨_, rfl, D, .list (r.2.map PyData.bool), rfl, .lst (sq_of hDl) (dp_bools _ _ _), s1, s2, s3, s4, ?_⟩
                have hb6 := ex_t e6 hb1
                rw [show V.ref bb :: List.map V.bl r.2 = [V.ref bb, .bl (lastsF (grF nm c d true true true) r.1), .bl (lastsF (grF nm c d true false true) r.1), .bl (lastsF (grF nm c d true true false) r.1), .bl (lastsF (grF nm c d false true true) r.1)] by rw [rfl4]; rfl] at hb6
                refine ⟨_, rfl, 1, rfl, as[i], _, rfl, hb6, fun h => absurd h.1 (show ¬ HT.sIx 5 0 (some 1) = 0 by decide), fun _ t1 ht1 => ?_⟩
                refine ⟨t1, _, rfl, .inr (st_of upd_same), fun l1 hl1 => ?_⟩
                have f1 := Ex.new (o := HO.tup (cutV [V.ref bb, .bl (lastsF (grF nm c d true true true) r.1), .bl (lastsF (grF nm c d true false true) r.1), .bl (lastsF (grF nm c d true true false) r.1), .bl (lastsF (grF nm c d false true true) r.1)] (some 1) none)) ht1
                refine ⟨l1, .list (r.2.map PyData.bool), rfl, .lst (sq_of (xs := r.2.map V.bl) (by rw [upd_same, rfl4]; rfl)) (dp_bools _ _ _), s1, s2, s3, s4, ?_⟩
                refine ⟨rfl, _, rfl, ?_⟩
                refine ifF (by simp) ?_
                exact ⟨_, _, _, rfl, (e4.trans e6).trans (f1.trans (Ex.new hl1))⟩
            · rintro σ H ⟨z14, z15, z21, rfl, e⟩
              exact ⟨_, _, _, _, _, _, _, _, _, _, _, _, nm, sh, vl, c, d, a1, a2, ap, rfl, T2.mono (e3.trans e), cx3.mono e, gd2⟩
          · -- figure, kept
            rintro σ2 K4 ⟨y0, y3, y6, y13, y14, y15, y16, y17, y18, y19, y20, y21, nm, sh, vl, c, d, a1, a2, ap, rfl, T4, cx4, gd4⟩
            try dsimp only
            refine ⟨sz3, fun g1 hg1 => ?_⟩
            have gx1 := Ex.new (o := HO.tup [V.str "zy", V.str "5", V.str "flag"]) hg1
            have gg1 := upd_same (H := K4) (a := g1) (o := HO.tup [V.str "zy", V.str "5", V.str "flag"])
            rw [lit_zy, lit_5, lit_flag] at gg1
            refine ta_rows (K := K) (rl_lst (rs_cons (ev_row1 (r := ([[45, 53]], [true])) (ea_cons (ev_lit (by decide +kernel)) ea_nil) (ea_cons ev_c ea_nil) (by show 1 ≤ 100; decide))
              (rs_cons (ev_row1 (r := ([[45, 53, 53], [119]], [true])) (ea_cons (ev_lit (by decide +kernel)) (ea_cons (ev_lit (by decide +kernel)) ea_nil)) (ea_cons ev_c ea_nil) (by show 2 ≤ 100; decide))
              (rs_cons (ev_row1 (r := ([[45, 55]], [false])) (ea_cons (ev_lit (by decide +kernel)) ea_nil) (ea_cons ev_c ea_nil) (by show 1 ≤ 100; decide)) rs_nil))) (by show 3 ≤ 100; decide)) fun L1 K5 e5 hL1 => ?_
            refine ⟨_, _, rfl, ?_⟩
            have cx5 := (cx4.mono gx1).mono e5
            have T5 := (T4.mono gx1).mono e5
            have gg5 := e5 _ _ gg1
            refine ⟨Mid K st dL n9, ?_, ?_⟩
            · refine tf_rows (K := K) (rl_cat (rl_var rfl hL1) (rl_lst (rs_cons (ev_row1 (r := ([[45, 45], [45, 53]], [true])) (ea_cons (ev_lit (by decide +kernel)) (ea_cons (ev_lit (by decide +kernel)) ea_nil)) (ea_cons ev_c ea_nil) (by show 2 ≤ 100; decide))
                (rs_cons (ev_row1 (r := ([[119], [45, 53]], [true])) (ea_cons (ev_lit (by decide +kernel)) (ea_cons (ev_lit (by decide +kernel)) ea_nil)) (ea_cons ev_c ea_nil) (by show 2 ≤ 100; decide))
                (rs_cons (ev_row1 (r := ([[119], [45, 53, 55]], [false])) (ea_cons (ev_lit (by decide +kernel)) (ea_cons (ev_lit (by decide +kernel)) ea_nil)) (ea_cons ev_c ea_nil) (by show 2 ≤ 100; decide)) rs_nil))) (by show 3 ≤ 100; decide)) (by show 3 + 3 ≤ 1000; decide)) fun R K6 e6 hR => ?_
              obtain ⟨as, hR1, hR2⟩ := hR
              have cx6 := cx5.mono e6
              have gg6 := e6 _ _ gg5
              refine for_it (L2.walk_list (K := K) (a := R) (xs := as.map V.ref)) (fun i σ H => ∃ z18 z19, σ = [y0, some (.ref st), some (.str lt25), y3, some (ss nm), some (ss sh), y6, some (ss vl), some (ss [c]), some (ss [d]), some (.ref a1), some (.ref a2), some (.ref ap), y13, y14, y15, some (.ref g1), some (.ref L1), z18, z19, y20, y21] ∧ Ex K6 H)
                ⟨_, _, rfl, Ex.refl _⟩ (fun i σ H _ ⟨_, _, _, e⟩ => sq_of (e _ _ hR1)) ?_ ?_
              · rintro i x σ H4 H5 hi ⟨z18, z19, rfl, e4⟩ ⟨rfl, hx⟩
                have hi' : i < as.length := by simpa using hi
                rw [List.getElem?_map, List.getElem?_eq_getElem hi'] at hx
                obtain rfl : V.ref as[i] = x := Option.some.inj hx
                obtain ⟨r, hr, hra⟩ := L2.paired_get hR2 (List.getElem?_eq_getElem hi')
                obtain ⟨bb, hb1, hb2⟩ := hra.mono e4
                obtain ⟨rw_, rlen, rfl4⟩ := rows3_so gd4 r (List.mem_of_getElem? hr)
                rw [rfl4] at hb1
                refine ⟨as[i], _, rfl, hb1, rfl, _, _, rfl, _, _, rfl, rfl, ?_⟩
                refine ⟨_, rfl, _, rfl, _, rfl, sz3, fun t1 ht1 => ⟨_, rfl, sz3, fun t2 ht2 => ⟨sz3, fun t3 ht3 => ?_⟩⟩⟩
                have f1 := Ex.new (o := HO.tup [V.ref a1, V.ref a2, V.ref g1]) ht1
                have f2 := Ex.new (o := HO.tup [V.bl true, V.bl true, V.bl true]) ht2
                have f3 := Ex.new (o := HO.tup [V.ref t1, V.ref ap, V.ref t2]) ht3
                have cx7 := (cx6.mono e4).mono ((f1.trans f2).trans f3)
                refine ⟨_, rfl, rfl, .bl (lastsF (gr3 nm c d) r.1), ⟨gr3 nm c d, t3, bb, r.1, rfl, ?_, gr3_ok gd4, ex_t ((f1.trans f2).trans f3) hb2, rlen, rw_, rfl⟩, fun H8 e8 => ?_⟩
                · exact cx7.gr3 (ex_t ((f1.trans f2).trans f3) (st_of (e4 _ _ gg6))) (ex_t (f2.trans f3) (st_of upd_same)) (st_of upd_same) (ex_t f3 (st_of upd_same))
                refine ⟨_, rfl, _, rfl, _, rfl, rfl, _, rfl, ?_⟩
                refine ifF (by simp) ?_
                exact ⟨_, _, rfl, (e4.trans ((f1.trans f2).trans f3)).trans e8⟩
              · rintro σ H ⟨z18, z19, rfl, e⟩
                exact ⟨_, _, _, _, _, _, _, _, _, _, _, _, nm, sh, vl, c, d, a1, a2, ap, rfl, (T5.mono e6).mono e, cx6.mono e, gd4⟩
            · rintro σ2 K4 ⟨y0, y3, y6, y13, y14, y15, y16, y17, y18, y19, y20, y21, nm, sh, vl, c, d, a1, a2, ap, rfl, T4, cx4, gd4⟩
              refine tf_rows (K := K) (rl_lst (rs_cons (ev_row1 (r := ([], [true])) ea_nil (ea_cons ev_c ea_nil) (by show 0 ≤ 100; decide))
                (rs_cons (ev_row1 (r := ([[119]], [false])) (ea_cons (ev_lit (by decide +kernel)) ea_nil) (ea_cons ev_c ea_nil) (by show 1 ≤ 100; decide))
                (rs_cons (ev_row1 (r := ([[45, 53]], [false])) (ea_cons (ev_lit (by decide +kernel)) ea_nil) (ea_cons ev_c ea_nil) (by show 1 ≤ 100; decide))
                (rs_cons (ev_row1 (r := ([[45] ++ [d]], [true])) (ea_cons (ev_cat (ev_lit (by decide +kernel)) (ev_var rfl) (by show 1 + 1 ≤ 1000; decide)) ea_nil) (ea_cons ev_c ea_nil) (by show 1 ≤ 100; decide)) rs_nil)))) (by show 4 ≤ 100; decide)) fun R K6 e6 hR => ?_
              obtain ⟨as, hR1, hR2⟩ := hR
              have cx6 := cx4.mono e6
              refine for_it (L2.walk_list (K := K) (a := R) (xs := as.map V.ref)) (fun i σ H => ∃ z18 z19, σ = [y0, some (.ref st), some (.str lt25), y3, some (ss nm), some (ss sh), y6, some (ss vl), some (ss [c]), some (ss [d]), some (.ref a1), some (.ref a2), some (.ref ap), y13, y14, y15, y16, y17, z18, z19, y20, y21] ∧ Ex K6 H)
                ⟨_, _, rfl, Ex.refl _⟩ (fun i σ H _ ⟨_, _, _, e⟩ => sq_of (e _ _ hR1)) ?_ ?_
              · rintro i x σ H4 H5 hi ⟨z18, z19, rfl, e4⟩ ⟨rfl, hx⟩
                have hi' : i < as.length := by simpa using hi
                rw [List.getElem?_map, List.getElem?_eq_getElem hi'] at hx
                obtain rfl : V.ref as[i] = x := Option.some.inj hx
                obtain ⟨r, hr, hra⟩ := L2.paired_get hR2 (List.getElem?_eq_getElem hi')
                obtain ⟨bb, hb1, hb2⟩ := hra.mono e4
                obtain ⟨rw_, rlen, rfl4⟩ := rows0_so gd4 r (List.mem_of_getElem? hr)
                rw [rfl4] at hb1
                refine ⟨as[i], _, rfl, hb1, rfl, _, _, rfl, _, _, rfl, rfl, ?_⟩
                refine ⟨_, rfl, _, rfl, sz2, fun t1 ht1 => ⟨by show 0 ≤ sizeLine; decide, fun t0 ht0 => ⟨sz3, fun t2 ht2 => ⟨sz3, fun t3 ht3 => ?_⟩⟩⟩⟩
                have f1 := Ex.new (o := HO.tup [V.ref a1, V.ref a2]) ht1
                have f0 := Ex.new (o := HO.tup []) ht0
                have f2 := Ex.new (o := HO.tup [V.bl true, V.bl true, V.bl true]) ht2
                have f3 := Ex.new (o := HO.tup [V.ref t1, V.ref t0, V.ref t2]) ht3
                have cx7 := (cx6.mono e4).mono (((f1.trans f0).trans f2).trans f3)
                refine ⟨_, rfl, rfl, .bl (lastsF (gr0 nm c d) r.1), ⟨gr0 nm c d, t3, bb, r.1, rfl, ?_, gr0_ok gd4, ex_t (((f1.trans f0).trans f2).trans f3) hb2, rlen, rw_, rfl⟩, fun H8 e8 => ?_⟩
                · exact cx7.gr0 (ex_t ((f0.trans f2).trans f3) (st_of upd_same)) (st_of upd_same) (ex_t (f2.trans f3) (st_of upd_same)) (ex_t f3 (st_of upd_same))
                refine ⟨_, rfl, _, rfl, _, rfl, rfl, _, rfl, ?_⟩
                refine ifF (by simp) ?_
                exact ⟨_, _, rfl, (e4.trans (((f1.trans f0).trans f2).trans f3)).trans e8⟩
              · rintro σ H ⟨z18, z19, rfl, e⟩
                exact ⟨n9, _, _, _, _, _, _, _, _, _, _, _, _, _, _, _, _, _, _, _, _, rfl, (T4.mono e6).mono e, hn9.1⟩
    · rintro σ H2 ⟨n, x0, x3, x4, x5, x6, x7, x8, x9, x10, x11, x12, x13, x14, x15, x16, x17, x18, x19, x20, x21, rfl, S2, hn⟩
      exact q H2
end
end K9

set_option Elab.async false
set_option maxRecDepth 100000
set_option maxHeartbeats 4000000
/-! An error that a name keeps beyond its except suite: tracked, asked for its class, its field read. -/
namespace KX
open PySem PySem.Spec PyProof.Rows L2
/-- a caught error that is kept -/
def KeO (cls : Value) (d : Option Addr) (a : Addr) : HO := .ext fun h => ∃ (oe : Obj) (vs : Array Value), h.get? a = some oe ∧ Zc cls d oe ∧ oe.data = .fields vs
theorem keO_ok {P : Program} {w : World} {H : Hp} {h : Heap} {a : Addr} {cls : Value} {d : Option Addr} {oe : Obj} {vs : Array Value} (e : h.get? a = some oe) (z : Zc cls d oe) (f : oe.data = .fields vs) : ObjOk P w H h a (KeO cls d a) :=
  ⟨⟨oe, vs, e, z, f⟩, ⟨oe, e⟩, fun _ _ ⟨o, v, q, r⟩ k => ⟨o, v, k o q, r⟩⟩
section
variable {X : Cx} {pins : List (Addr × Obj)} {σ : L2.St} {H : Hp} {s : Shared} {a : Addr} {o : HO}
/-- an object that is new since the def's entry is tracked from now on -/
theorem track (I : Inv X pins σ H s) (n0 : X.s_0.heap.get? a = none) (na : H a = none) (new : ObjOk X.prog X.w (upd H a o) s.heap a o) (np : ∀ p ∈ X.pn ++ pins, p.1 ≠ a) (nL : X.env.locals ≠ a)
    (nC : ∀ x c, X.env.cells.lookup x = some c → c ≠ a) : Inv X pins σ (upd H a o) s := by
  have ne0 : ∀ {b ob}, X.s_0.heap.get? b = some ob → b ≠ a := fun {b ob} e z => by
    rw [z, n0] at e
    cases e
  have U : Un X.fs X.ex X.H_0 (upd H a o) X.s_0.heap s.heap := by
    constructor
    · exact I.base.keep
    · exact I.base.slot
    · intro b ob e1 e2 e3
      rw [upd_ne (ne0 e1)]
      exact I.base.free b ob e1 e2 e3
    · exact I.base.there
    · intro b xs e
      have z := I.base.tups b xs e
      rw [upd_ne (ne_of_none z na)]
      exact z
    · intro b ob u e
      have z := I.base.frzs b ob u e
      rw [upd_ne (ne_of_none z na)]
      exact z
    · intro b ps e
      obtain ⟨m, z⟩ := I.base.tbls b ps e
      exact ⟨m, by rw [upd_ne (ne_of_none z na)]; exact z⟩
  refine { ok := I.ok, os := I.os, bare := I.bare, base := U, loc := I.loc, cell := I.cell, free := ?_, freeC := fun x c e => ?_, pin := fun p hp => ?_, hok := fun b u e => ?_, len := I.len }
  · rw [upd_ne nL]
    exact I.free
  · rw [upd_ne (nC x c e)]
    exact I.freeC x c e
  · obtain ⟨q1, q2, q3⟩ := I.pin p hp
    exact ⟨q1, by rw [upd_ne (np p hp)]; exact q2, q3⟩
  · by_cases hb : b = a
    · subst hb
      rw [upd_same] at e
      cases e
      exact new
    · rw [upd_ne hb] at e
      refine (I.hok b u e).stay (fun _ _ _ z => z) (fun c z => ?_) fun c xs z => ?_
      · rw [upd_ne (ne_of_none z na)]
        exact z
      · rw [upd_ne (ne_of_none z na)]
        exact z
end
theorem sky_new {B : Heap} {l : List Env} {a : Addr} {Z : Obj → Prop} {L : Addr} {h : Heap} (k : Sky B l a Z L h) : B.get? a = none := by
  rcases k with k | k | k
  · exact k.2.1
  · exact k.2.1
  · exact k.2.1
/-- what 'except x as n: m = n' wishes of an error of the body, where the clause meets all of them -/
def wKeep (K : PySem.W.Frag) (c : Value) (i j len : Nat) (D : Ends) : WX := fun cls d σ H => PySem.W.exmOne K cls c = some true ∧ ∀ a, H a = none → σ.length = len → D.nx (((σ.set i (some (.ref a))).set j (some (.ref a))).set i none) (upd H a (KeO cls d a))
section
variable {X : Cx} {x n m : Str} {c : Value} {i j : Nat} {body : List Stmt} {np pos pos' p1 p2 p3 : Pos} {tb : WX → TS}
theorem ps_try_keep (hs : X.stack = X.env :: X.outer) (hf : X.env.frame = some X.env.locals) (hx0 : X.ex = []) (nd : X.N.Nodup) (hi : X.N[i]? = some n) (ln : X.env.kindOf n = some .local) (hj : X.N[j]? = some m) (lm : X.env.kindOf m = some .local) (hc : Names X x c)
    (swp : ∀ (a : Addr) (pn : List (Addr × Obj)), swapsWith (.Name n p2) (some (.Name m p1)) p3.line (X.suite a pn).env = pure false)
    (hb : ∀ (W : WX) (pn : List (Addr × Obj)) (xe : Value → Shared → Prop), Takes (X.tr pn xe) W → PassesOwn (model X.prog X.w) X.A X.env xe → PSs (X.tr pn xe) body (tb W))
    (d1 : (n == ("__debug__" : Str)) = false := by decide) (d2 : (n == ("__classdict__" : Str)) = false := by decide) :
    PS X (.Try body [.ExceptHandler (some (.Name x np)) (some n) [.Assign [.Name m p1] (.Name n p2) p3] pos'] [] [] pos) (fun D σ H => tb (wKeep X.K c i j X.N.length D) D σ H) := by
  refine ⟨fun pins s σ H D I h => ?_⟩
  have ok := I.ok
  have frm : X.A.frames = some (X.env :: X.outer) := by
    rw [ok.frames]
    rw [hs]
  refine wpAny_Try_except (wpAny_mono ((hb (wKeep X.K c i j X.N.length D) (X.pn ++ pins) _ (fun u s' met => ?_) PassesOwn.looking).run [] s σ H D (I.toTry _) h) (fun fl s1 q => ?_) fun _ _ q => q)
  · obtain ⟨a, B, sI, pinsT, σT, HT, cls, d, rfl, JT, nb, up, sky, na, os, ag, hit, go⟩ := met
    have J : L2.Inv X pins σT HT sI := JT.ofTry ok
    have Bn := sky_new sky
    rw [hs] at sky
    show wpAny (model X.prog X.w) X.A (noteFrame (.ref a) X.env) _ _ _
    refine Sky.land Zc.steady frm hf sky fun g1 fly1 up1 => ?_
    have K1 : L2.Inv X pins σT HT { s' with heap := g1 } := J.landed nb fly1.1 (up.trans up1) os ag
    obtain ⟨oe1, vs1, at1, zc1, df1⟩ := fly1.there
    have noFrame : a ∉ frs (X.env :: X.outer) := fun mem => by
      obtain ⟨_, ob, e, nf⟩ := fly1.2.2.1.mem mem
      rw [at1] at e
      cases e
      exact nf _ df1
    have apL : a ≠ X.env.locals := fun z => noFrame (List.mem_filterMap.mpr ⟨X.env, List.mem_cons_self, by rw [hf, z]⟩)
    have apF : a ∉ X.fs := fun mem => by
      obtain ⟨e, he, q⟩ := List.mem_filterMap.mp mem
      exact noFrame (List.mem_filterMap.mpr ⟨e, List.mem_cons_of_mem _ he, q⟩)
    have noB : ∀ {b ob}, sI.heap.get? b = some ob → b ∉ frs X.stack → b ≠ a := fun {b ob} e nf z => by
      have q := nb b ob e nf
      rw [z, Bn] at q
      cases q
    have new0 : X.s_0.heap.get? a = none := by
      cases e : X.s_0.heap.get? a with
      | none => rfl
      | some ob =>
        obtain ⟨ob', e'⟩ := J.base.there a ob e (by rw [hx0]; simp)
        exact absurd rfl (noB e' (by rw [hs]; exact noFrame))
    have S1 := K1.suite at1 df1 na apL apF
    refine wpAny_handleBy_cons (codeAny_handlers_test ?_) (by intro q; cases q)
    have tyA : PySem.W.Looks (model X.prog X.w) g1 (typeOf (.ref a)) cls := fun A Q E s k q => wpAny_typeOf_ref (k _ _ at1) (by rw [zc1.1]; exact q)
    have asks := PySem.W.exm_one (M := model X.prog X.w) K1.kIn tyA hit
    have clause : ∀ {Q E : Value → Shared → Prop}, Q c { s' with heap := g1 } → wpAny (model X.prog X.w) (X.A.mark (some (.ref a))) (eval (.Name x np) X.env) Q E { s' with heap := g1 } := fun {Q E} q => by
      obtain ⟨gl, db, hm | ⟨hm, hv, nn⟩⟩ := hc
      · exact ld_glob (X := X.suite a ((a, oe1) :: (X.pn ++ pins))) S1 gl hm q db
      · exact ld_blt (X := X.suite a ((a, oe1) :: (X.pn ++ pins))) S1 gl hm hv q nn db
    refine clause (asks.here ?_)
    refine codeAny_handlers_suite_as (HandSPX.lands_againZ fly1 fun g2 fly2 up2 => ?_)
    have K2 : L2.Inv X pins σT HT { s' with heap := g2 } := J.landed nb fly2.1 ((up.trans up1).trans up2) os ag
    obtain ⟨oe2, vs2, at2, zc2, df2⟩ := fly2.there
    have S2 := K2.suite at2 df2 na apL apF
    refine store_ok (X := X.suite a ((a, oe2) :: (X.pn ++ pins))) (i := i) (v := V.ref a) (u := .ref a) S2 nd hi (.inl ln) rfl (fun t1 T1 => ?_) (.inr ln)
    have own : PSs (X.suite a ((a, oe2) :: (X.pn ++ pins))) [.Assign [.Name m p1] (.Name n p2) p3] _ :=
      pss_one (ps_set (i := j) nd hj (.inl lm) (pe_var (i := i) hi (.inl ln) d1 d2) (swp _ _) (.inr lm))
    refine wpAny_mono (own.run [] t1 _ HT { nx := fun τ Hτ => τ = (σT.set i (some (.ref a))).set j (some (.ref a)) ∧ Hτ = HT, rt := fun _ _ => False, bk := fun _ _ => False, ct := fun _ _ => False } T1 ?_) (fun fl t2 q => ?_) fun _ _ z => False.elim z
    · have li : i < σT.length := by
        rw [J.len]
        exact (List.getElem?_eq_some_iff.mp hi).1
      refine ⟨.ref a, ?_, rfl, rfl⟩
      rw [List.getElem?_set_self li]
    · cases fl with
      | next =>
        obtain ⟨τ, Hτ, T2, e1, e2⟩ := q
        rw [e1, e2] at T2
        have U2 : L2.Inv X pins _ HT t2 := T2.unsuite ok
        obtain ⟨at3, _⟩ := T2.pin (a, oe2) (List.mem_append_left _ List.mem_cons_self)
        have tr := track (o := KeO cls d a) U2 new0 na (keO_ok at3 zc2 df2) (fun p hp => ?_) (Ne.symm apL) (fun y cc e => ?_)
        · exact gone_ok tr nd hi ln fun t3 J3 => ⟨_, _, J3, go a na J.len⟩
        · obtain ⟨q1, _, q3, q4, _⟩ := J.pin p hp
          refine noB q1 fun mem => ?_
          rcases List.mem_cons.mp (J.stkSub _ mem) with z | z
          · exact q3 z
          · exact q4 z
        · intro z
          obtain ⟨v, oc, q1, q2⟩ := U2.cell y cc e
          rw [z, at3] at q1
          cases q1
          rw [df2] at q2
          cases q2
      | brk =>
        obtain ⟨_, _, _, q⟩ := q
        exact q.elim
      | cont =>
        obtain ⟨_, _, _, q⟩ := q
        exact q.elim
      | ret u =>
        obtain ⟨_, _, _, _, _, q⟩ := q
        exact q.elim
  · cases fl with
    | next =>
      obtain ⟨τ, Hτ, J, q⟩ := q
      exact wpAny_execs_nil ⟨τ, Hτ, J.ofTry ok, q⟩
    | brk =>
      obtain ⟨τ, Hτ, J, q⟩ := q
      exact ⟨τ, Hτ, J.ofTry ok, q⟩
    | cont =>
      obtain ⟨τ, Hτ, J, q⟩ := q
      exact ⟨τ, Hτ, J.ofTry ok, q⟩
    | ret u =>
      obtain ⟨v, τ, Hτ, J, r, q⟩ := q
      exact ⟨v, τ, Hτ, J.ofTry ok, r, q⟩
end
/-! ### what is asked of it -/
section
variable {X : Cx} {pins : List (Addr × Obj)} {σ : L2.St} {H : Hp} {s : Shared}
theorem kept_at {a D dd : Addr} {fs : List (Str × V)} (I : Inv X pins σ H s) (ha : H a = some (KeO (.ref D) (some dd) a)) (hd : H dd = some (.xd fs)) :
    ∃ (oe od : Obj) (mA : Str → Option Value), PySem.W.InstAt s.heap a oe D (some od) ∧ (∀ y, PySem.W.lookIn y od = some (mA y)) ∧ ∀ f, RelO (fs.lookup f) (mA f) := by
  have q1 : ObjOk X.prog X.w H s.heap a (.ext fun h => ∃ (oe : Obj) (vs : Array Value), h.get? a = some oe ∧ Zc (.ref D) (some dd) oe ∧ oe.data = .fields vs) := I.hok a _ ha
  obtain ⟨⟨oe, vs, e, z, df⟩, _⟩ := q1
  have q2 : ObjOk X.prog X.w H s.heap dd (.xd fs) := I.hok dd _ hd
  obtain ⟨mA, ns, rel⟩ := q2
  obtain ⟨od, ho, hl⟩ := lookIn_ns ns
  refine ⟨oe, od, mA, ⟨e, z.1, ?_, by rw [z.2]; exact ho⟩, hl, rel⟩
  unfold PySem.W.notCls
  rw [df] <;> rfl
/-- isinstance(e, c), e kept -/
def rIsX (K : PySem.W.Frag) : List V → Hp → VK → Prop := fun xs H Q => ∃ (a D dd : Addr) (fs : List (Str × V)) (c : V) (cv : Value) (b : Bool), xs = [.ref a, c] ∧ ClsV c cv ∧ H a = some (KeO (.ref D) (some dd) a) ∧ H dd = some (.xd fs) ∧ ExcC K D ∧
  PySem.W.kitOne K (.ref D) cv = some b ∧ Q (.bl b) H
theorem call_isX : CallR X (.builtin "isinstance") (rIsX X.K) := by
  intro pins s σ H xs us Q I r h
  obtain ⟨a, D, dd, fs, c, cv, b, rfl, k, ha, hd, C, e, q⟩ := h
  obtain ⟨u1, u2, rfl, r1, r2⟩ := vals2 r
  have e2 := k.eq r2
  subst e2
  cases (show u1 = Value.ref a from r1)
  obtain ⟨oe, od, mA, J, _, _⟩ := kept_at I ha hd
  obtain ⟨cd, hcl, _⟩ := PySem.W.any_some C.hd
  exact PySem.W.kia_one (PySem.W.kitx_exc (by rw [hcl] <;> rfl) C.hg C.hk C.hs C.ha C.hn C.ht C.hm) I.kIn J e (fun z => nomatch z) fun tk => ⟨.bl b, H, I.tok tk, rfl, q⟩
/-- isinstance(e, (c1, c2, ..)), e kept -/
def rIsXT (K : PySem.W.Frag) : List V → Hp → VK → Prop := fun xs H Q => ∃ (a D dd tp : Addr) (fs : List (Str × V)) (cs : List V) (us : List Value) (b : Bool), xs = [.ref a, .ref tp] ∧ H tp = some (.tup cs) ∧ Paired ClsV cs us ∧ H a = some (KeO (.ref D) (some dd) a) ∧
  H dd = some (.xd fs) ∧ ExcC K D ∧ PySem.W.kitAny K (.ref D) us = some b ∧ Q (.bl b) H
theorem call_isXT : CallR X (.builtin "isinstance") (rIsXT X.K) := by
  intro pins s σ H xs us Q I r h
  obtain ⟨a, D, dd, tp, fs, cs, ws, b, rfl, hT, k, ha, hd, C, e, q⟩ := h
  obtain ⟨u1, u2, rfl, r1, r2⟩ := vals2 r
  cases (show u1 = Value.ref a from r1)
  cases (show u2 = Value.ref tp from r2)
  obtain ⟨oe, od, mA, J, _, _⟩ := kept_at I ha hd
  obtain ⟨cd, hcl, _⟩ := PySem.W.any_some C.hd
  obtain ⟨_, its, rv, ⟨oc, od', dt, sl⟩, h1, h2, n, h3⟩ := (show ObjOk X.prog X.w H s.heap tp (.tup cs) from I.hok tp _ hT)
  have e3 := ClsV.all k rv
  subst e3
  simp only at h2 h3
  subst h2 h3
  exact PySem.W.kia_tup (PySem.W.kitx_exc (by rw [hcl] <;> rfl) C.hg C.hk C.hs C.ha C.hn C.ht C.hm) I.kIn J h1 e (fun z => nomatch z) fun tk => ⟨.bl b, H, I.tok tk, rfl, q⟩
/-- e.f, e kept -/
def tKf (K : PySem.W.Frag) (f : Str) (te : TE) : TE := fun σ H Q => te σ H fun x H1 => ∃ (a D dd : Addr) (fs : List (Str × V)) (v : V), x = .ref a ∧ H1 a = some (KeO (.ref D) (some dd) a) ∧ H1 dd = some (.xd fs) ∧ XfC K D ∧ PySem.W.findIn K (.ref D) f = some none ∧
  fs.lookup f = some v ∧ Q v H1
theorem pe_kf {e : Expr} {te : TE} {pos : Pos} {f : Str} (he : PE X e te) (hb : attributeBase e f X.env (eval e X.env) = eval e X.env := by rfl) : PE X (.Attribute e f pos) (tKf X.K f te) := by
  refine ⟨fun pins s σ H Q I h => ?_⟩
  refine attr_of hb (thn (he.run pins s σ H _ I h) fun u s1 got => ?_)
  obtain ⟨x, H1, I1, rx, a, D, dd, fs, v, ex, ha, hd, T, no, l, q⟩ := got
  subst ex
  obtain rfl : u = Value.ref a := rx
  obtain ⟨oe, od, mA, J, hl, rel⟩ := kept_at I1 ha hd
  obtain ⟨u, hu, ru⟩ := RelO.some_of (v := v) (o := mA f) (by rw [← l]; exact rel f)
  exact HandSPX.exc_get I1.kIn J T.ga T.gg T.exC (PySem.W.findObj_own T.hdC no rfl (by rw [hl, hu])) (handed_of ru) ⟨v, H1, I1.tok _, ru, q⟩
end
end KX

set_option Elab.async false
set_option maxRecDepth 100000
set_option maxHeartbeats 4000000
/-! A lambda with one parameter that has a default, handed to a def that calls it without arguments. -/
namespace KX
open PySem PySem.Spec PyProof.Rows L2 LamX
abbrev fnD (qual : Str) (params : Arguments) (body : Expr) (scope : Scope) (cl : List (Str × Addr)) (T : Addr) (pm cdv ct : Value) : FuncData :=
  { name := "<lambda>", qualname := qual, params := params, body := .expr body, scope := scope, globals := mainGlobals, builtins := builtinsNs, closure := cl, closureTuple := ct, code := cdv, pyModule := pm,
    defaults := .ref T, kwdefaults := .none, annotations := none, doc := .none }
abbrev objD (qual : Str) (params : Arguments) (body : Expr) (scope : Scope) (cl : List (Str × Addr)) (T : Addr) (pm cdv ct : Value) : Obj := { cls := .type "function", data := .func (fnD qual params body scope cl T pm cdv ct) }
section
variable {M : Model} {A : Around} {E : Value → Shared → Prop} {s : Shared} {qual : Str} {params : Arguments} {body : Expr} {scope : Scope} {env : Env} {c P T : Addr} {ps : Array Value} {pos : Pos} {firstLine : Nat} {mg : Str → Option Value}
  {cl : List (Str × Addr)} {Q : Value → Shared → Prop}
theorem tailD (ecl : closureFor scope env = pure cl) (eg : env.globals = mainGlobals) (ng : s.heap.Ns mainGlobals mg) (ec : env.code = .ref c) (C : PySem.W.CodeHd s.heap c P) (hP : s.heap.get? P = some { cls := .none, data := .fields ps }) (tri : TriplesOk ps.toList)
    (nP : mainGlobals ≠ P) (bm : s.heap.BuiltinsAt mg P)
    (miss : codeAmong pos ps.toList = none → ∀ (c' : Addr) (ctv : Value) (h' : Heap) (tk : Tok), Heap.ExtBut P s.heap h' → s.heap.objs.size ≤ c' → c' < h'.objs.size → h'.CodeRec (.ref c') qual → h'.get? P = some { cls := .none, data := .fields (ps ++ #[rawInt pos.line, rawInt pos.col, .ref c']) } →
      Q (.ref h'.objs.size) { s with heap := h'.push (objD qual params body scope cl T ((mg "__name__").getD .none) (.ref c') ctv), toks := tk })
    (hit : ∀ cv, codeAmong pos ps.toList = some cv → ∀ (ctv : Value) (h' : Heap) (tk : Tok), (∀ b o, s.heap.get? b = some o → h'.get? b = some o) → s.heap.objs.size ≤ h'.objs.size →
      Q (.ref h'.objs.size) { s with heap := h'.push (objD qual params body scope cl T ((mg "__name__").getD .none) cv ctv), toks := tk }) :
    wpAny M A (makeTail "<lambda>" qual params (.expr body) scope env (.ref T) .none none pos firstLine) Q E s := by
  obtain ⟨bmA, ob, z1, z2, _, z4, z5, z6, z7, z8⟩ := bm
  have up : ∀ {oT : Obj} {b : Addr} {o : Obj}, s.heap.get? b = some o → (s.heap.push oT).get? b = some o := fun e => Heap.get?_push_of_some _ e
  have szU : ∀ oT : Obj, s.heap.objs.size ≤ (s.heap.push oT).objs.size := fun oT => by
    rw [Heap.size_push]
    exact Nat.le_succ _
  unfold makeTail
  rw [ecl, eg]
  refine wpAny_bind (wpAny_pure ?_)
  cases cl with
  | nil =>
    simp only [List.isEmpty_nil, if_true]
    refine wpAny_bind (wpAny_pure ?_)
    cases look : codeAmong pos ps.toList with
    | none =>
      refine wpAny_bind (wpAny_functionCodeX ec (C.code hP tri) (C.tab hP) look fun c' h' tk x1 x2 x3 _ x4 x5 _ => ?_)
      have ng' := ng.extBut x1 nP
      refine wpAny_bind (wpAny_builtinsFor ng' z1 z2 (x1 _ _ z4 z5) z6 z7 z8 (wpAny_bind (wpAny_nsGet ng' ?_)))
      exact wpAny_bind (wpAny_pure (wpAny_newObj_type (miss look c' _ h' tk x1 x2 x3 x4 x5.2) (by size_fits)))
    | some cv =>
      refine wpAny_bind (wpAny_functionCode_hit ec (C.code hP tri) look (wpAny_bind (wpAny_builtinsFor ng z1 z2 z5 z6 z7 z8 (wpAny_bind (wpAny_nsGet ng ?_)))))
      exact wpAny_bind (wpAny_pure (wpAny_newObj_type (hit cv look _ s.heap s.toks (fun _ _ e => e) (Nat.le_refl _)) (by size_fits)))
  | cons q r =>
    simp only [List.isEmpty_cons, Bool.false_eq_true, if_false]
    refine wpAny_bind (wpAny_newTextTuple ?_)
    have C' := C.keeps (h' := s.heap.push _) fun b o e => up (oT := { cls := .type "tuple", data := .seq (List.map (fun x => Value.ref x.2) (List.mergeSort (q :: r) fun a b => decide (a.1.cps.toList ≤ b.1.cps.toList))).toArray }) e
    cases look : codeAmong pos ps.toList with
    | none =>
      refine wpAny_bind (wpAny_functionCodeX ec (C'.code (up hP) tri) (C'.tab (up hP)) look fun c' h' tk x1 x2 x3 _ x4 x5 _ => ?_)
      have ng' := (ng.push _).extBut x1 nP
      have x1' : Heap.ExtBut P s.heap h' := fun b o nb e => x1 b o nb (up e)
      refine wpAny_bind (wpAny_builtinsFor ng' z1 z2 (x1' _ _ z4 z5) z6 z7 z8 (wpAny_bind (wpAny_nsGet ng' ?_)))
      exact wpAny_bind (wpAny_pure (wpAny_newObj_type (miss look c' _ h' tk x1' (Nat.le_trans (szU _) x2) x3 x4 x5.2) (by size_fits)))
    | some cv =>
      refine wpAny_bind (wpAny_functionCode_hit ec (C'.code (up hP) tri) look (wpAny_bind (wpAny_builtinsFor (ng.push _) z1 z2 (up z5) z6 z7 z8 (wpAny_bind (wpAny_nsGet (ng.push _) ?_)))))
      exact wpAny_bind (wpAny_pure (wpAny_newObj_type (hit cv look _ _ s.toks (fun b o e => up e) (szU _)) (by size_fits)))
end
/-- the names of such a lambda: its own ones are none of the maker's, the others captured or of the module -/
structure LamD (N : List Str) (sc scope : Scope) : Prop where
  kind : scope.kind = .function
  co : scope.isCoroutine = false
  gen : scope.isGenerator = false
  nocell : ∀ y ∈ scope.names, y.2 ≠ .cell
  ownN : ∀ y ∈ scope.names, y.2 = .local → y.1 ∉ N
  free : ∀ y ∈ scope.names, y.2 = .free → sc.names.lookup y.1 = some .cell ∨ sc.names.lookup y.1 = some .free
def lamDB (N : List Str) (sc scope : Scope) : Bool :=
  decide (scope.kind = .function) && !scope.isCoroutine && !scope.isGenerator &&
    scope.names.all fun y => !decide (y.2 = .cell) && (!decide (y.2 = .local) || !decide (y.1 ∈ N)) && (!decide (y.2 = .free) || (decide (sc.names.lookup y.1 = some .cell) || decide (sc.names.lookup y.1 = some .free)))
theorem lamD_by {N : List Str} {sc scope : Scope} (h : lamDB N sc scope = true) : LamD N sc scope := by
  unfold lamDB at h
  rw [Bool.and_eq_true, Bool.and_eq_true, Bool.and_eq_true, List.all_eq_true] at h
  obtain ⟨⟨⟨h1, h2⟩, h3⟩, h4⟩ := h
  have at_ : ∀ y ∈ scope.names, y.2 ≠ .cell ∧ (y.2 = .local → y.1 ∉ N) ∧ (y.2 = .free → sc.names.lookup y.1 = some .cell ∨ sc.names.lookup y.1 = some .free) := fun y hy => by
    have z := h4 y hy
    simp only [Bool.and_eq_true, Bool.or_eq_true, Bool.not_eq_true', decide_eq_true_eq, decide_eq_false_iff_not] at z
    obtain ⟨⟨z1, z2⟩, z3⟩ := z
    exact ⟨z1, fun e => z2.resolve_left fun q => q e, fun e => z3.resolve_left fun q => q e⟩
  exact ⟨of_decide_eq_true h1, by simpa using h2, by simpa using h3, fun y hy => (at_ y hy).1, fun y hy => (at_ y hy).2.1, fun y hy => (at_ y hy).2.2⟩
section
variable {X : Cx} {pins : List (Addr × Obj)} {σ : L2.St} {H HZ : Hp} {s s1 : Shared}
theorem LamD.has {scope : Scope} (L : LamD X.N X.env.scope scope) (ok : X.Ok) : ∀ y ∈ scope.names, y.2 = .free → ∃ c, X.env.cells.lookup y.1 = some c := fun y hy e => (L.free y hy e).elim (fun k => ok.has _ (.inl k)) fun k => ok.has _ (.inr k)
abbrev lq (X : Cx) : Str := X.env.qual ++ "<lambda>"
/-- such a lambda is made -/
theorem lam_makeD {Ts : List (Addr × Str)} {c P : Addr} {params : Arguments} {body : Expr} {scope : Scope} {pos : Pos} {E Q : Value → Shared → Prop} {m : Sem Value} (I : L2.Inv X pins σ H s) (TB : TabB X.base X.mg c P) (ec : X.env.code = .ref c)
    (mem : (P, lq X) ∈ Ts) (uniq : ∀ p ∈ Ts, p.1 = P → p.2 = lq X) (tabs : Tabs Ts H) (L : LamD X.N X.env.scope scope) (hdef : defaultsOf params X.env = ([m], []))
    (hm : ∀ (s : Shared) (Q E : Value → Shared → Prop), (∀ tk t', Q (.int 0 tk) { s with toks := t' }) → wpAny (model X.prog X.w) X.A m Q E s)
    (go : ∀ (f c' T : Addr) (pm ctv : Value) (tk : Tok) (H1 : Hp) (s' : Shared), L2.Inv X pins σ H1 s' → ExtN H H1 → Tabs Ts H1 → s'.heap.get? f = some (objD (lq X) params body scope (cloFrom X.env.cells scope.names []) T pm (.ref c') ctv) → H1 f = none → f ∉ frs X.stack →
      s'.heap.get? T = some { cls := .type "tuple", data := .seq #[.int 0 tk] } → H1 T = none → T ∉ frs X.stack → H1 c' = some (CodeO c' (lq X)) → Q (.ref f) s') :
    wpAny (model X.prog X.w) X.A (eval (.Lambda params body scope pos) X.env) Q E s := by
  rw [arm_eval_Lambda, hdef]
  show wpAny _ _ (evalAll [m] >>= fun dv => holding dv (evalAllOpt []) >>= fun kdv => makeFunction "<lambda>" (lq X) params (.expr body) scope X.env dv kdv [] pos pos.line) _ _ _
  refine wpAny_bind ?_
  unfold evalAll
  refine wpAny_bind (hm _ _ _ fun tk0 t0 => wpAny_bind (wpAny_holding (wpAny_pure (wpAny_pure (wpAny_bind (wpAny_holding (wpAny_pure ?_)))))))
  rw [makeFunction_eq]
  simp only [List.zip_nil_right, List.filterMap_nil, List.isEmpty_nil, List.isEmpty_cons, Bool.false_eq_true, if_false, if_true, pure_bind]
  refine wpAny_bind (wpAny_newTextTuple ?_)
  obtain ⟨T, eT⟩ : ∃ T, T = s.heap.objs.size := ⟨_, rfl⟩
  have J : L2.Inv X pins σ H { s with heap := s.heap.push { cls := .type "tuple", data := .seq [Value.int 0 tk0].toArray }, toks := t0 } := I.kept fun b u e => Heap.get?_push_of_some _ e
  have atT : (s.heap.push { cls := .type "tuple", data := .seq [Value.int 0 tk0].toArray }).get? T = some { cls := .type "tuple", data := .seq #[.int 0 tk0] } := by
    rw [eT]
    exact Heap.get?_push_at rfl rfl
  have HT : H T = none := I.hok.fresh (by rw [eT]; exact Nat.le_refl _)
  have noF : ∀ f, s.heap.objs.size ≤ f → f ∉ frs X.stack := fun f hf z => by
    rcases List.mem_cons.mp (I.stkSub _ z) with e | e
    · have q := I.lt
      rw [← e] at q
      exact absurd q (Nat.not_lt.mpr hf)
    · exact I.nofs hf e
  have Tfr : T ∉ frs X.stack := noF T (by rw [eT]; exact Nat.le_refl _)
  show wpAny _ _ (makeTail "<lambda>" (lq X) params (.expr body) scope X.env (.ref s.heap.objs.size) .none none pos pos.line) _ _ _
  rw [← eT]
  generalize gh : s.heap.push { cls := .type "tuple", data := .seq [Value.int 0 tk0].toArray } = h0 at J atT
  have le0 : s.heap.objs.size < h0.objs.size := by
    rw [← gh, Heap.size_push]
    exact Nat.lt_succ_self _
  obtain ⟨ps, hP, tri, among⟩ := tabs _ mem
  have atP : h0.get? P = some { cls := .none, data := .fields ps } := J.hok P _ hP
  have nTP : T ≠ P := fun z => by
    rw [z, atP] at atT
    cases atT
  refine tailD (cl := cloFrom X.env.cells scope.names []) (closure_ok (L.has I.ok)) I.ok.glob (J.mod.glob.keeps J.bk) ec (TB.code.keeps J.bk) atP tri TB.gP (TB.bm.keeps J.bk) (fun look c' ctv h' tk x1 x2 x3 rec tab => ?_) fun cv look ctv h' tk x1 x2 => ?_
  · obtain ⟨c2, oc, vs, t, e2, hoc, hd, hv⟩ := rec
    cases e2
    have x2' : h0.objs.size ≤ c' := x2
    have nC : H c' = none := J.hok.fresh x2'
    have K1 := inv_table (t' := tk) (more := #[rawInt pos.line, rawInt pos.col, .ref c']) (h' := h'.push (objD (lq X) params body scope (cloFrom X.env.cells scope.names []) T ((X.mg "__name__").getD .none) (.ref c') ctv)) J hP
      (fun b o nb e => Heap.get?_push_of_some _ (x1 b o nb e)) (Heap.get?_push_of_some _ tab) x2' ⟨oc, vs, t, Heap.get?_push_of_some _ hoc, hd, hv⟩
    have ext : ExtN H (upd (upd H P (.tbl (ps ++ #[rawInt pos.line, rawInt pos.col, .ref c']))) c' (CodeO c' (lq X))) := fun b o e nt => by
      have n1 : b ≠ P := fun z => nt ps (Option.some.inj (e.symm.trans (by rw [z]; exact hP)))
      rw [upd_ne (ne_of_none e nC), upd_ne n1]
      exact e
    have lenF : s.heap.objs.size ≤ h'.objs.size := Nat.le_trans (Nat.le_of_lt le0) (Nat.le_trans x2' (Nat.le_of_lt x3))
    have Tc : T ≠ c' := by
      rw [eT]
      exact Nat.ne_of_lt (Nat.lt_of_lt_of_le le0 x2')
    refine go h'.objs.size c' T _ ctv tk0 _ _ K1 ext (fun p hp => ?_) (Heap.get?_push_size _ rfl) ?_ (noF _ lenF) (Heap.get?_push_of_some _ (x1 T _ nTP atT)) ?_ Tfr upd_same
    · by_cases eP : p.1 = P
      · rw [uniq p hp eP, eP]
        refine ⟨_, by rw [upd_ne (ne_of_none hP nC), upd_same], ?_, fun p' cv e => ?_⟩
        · rw [Array.toList_append]
          exact PySem.TriplesOk_snoc _ _ _ _ tri
        · rw [Array.toList_append] at e
          rcases among_app _ tri e with z | z
          · obtain ⟨k0, q1, q2⟩ := among p' cv z
            exact ⟨k0, q1, ext _ _ q2 codeO_ne⟩
          · exact ⟨c', z, upd_same⟩
      · obtain ⟨ps', q1, q2, q3⟩ := tabs p hp
        refine ⟨ps', by rw [upd_ne (ne_of_none q1 nC), upd_ne eP]; exact q1, q2, fun p' cv e => ?_⟩
        obtain ⟨k0, w1, w2⟩ := q3 p' cv e
        exact ⟨k0, w1, ext _ _ w2 codeO_ne⟩
    · have n1 : h'.objs.size ≠ c' := Nat.ne_of_gt x3
      have n2 : h'.objs.size ≠ P := Nat.ne_of_gt (Nat.lt_of_lt_of_le (Heap.lt_size atP) (Nat.le_trans x2' (Nat.le_of_lt x3)))
      rw [upd_ne n1, upd_ne n2]
      exact I.hok.fresh lenF
    · rw [upd_ne Tc, upd_ne nTP]
      exact HT
  · obtain ⟨c', e, hco⟩ := among pos cv look
    subst e
    have x2' : h0.objs.size ≤ h'.objs.size := x2
    have lenF : s.heap.objs.size ≤ h'.objs.size := Nat.le_trans (Nat.le_of_lt le0) x2'
    have K1 : L2.Inv X pins σ H { s with heap := h'.push (objD (lq X) params body scope (cloFrom X.env.cells scope.names []) T ((X.mg "__name__").getD .none) (.ref c') ctv), toks := tk } := J.kept fun b o e => Heap.get?_push_of_some _ (x1 b o e)
    exact go h'.objs.size c' T _ ctv tk0 H _ K1 (ExtN.refl H) tabs (Heap.get?_push_size _ rfl) (I.hok.fresh lenF) (noF _ lenF) (Heap.get?_push_of_some _ (x1 T _ atT)) HT Tfr hco
end
end KX

set_option Elab.async false
set_option maxRecDepth 100000
set_option maxHeartbeats 4000000
/-! .. and called. -/
namespace KX
open PySem PySem.Spec PyProof.Rows L2 LamX
section
variable {X : Cx} {pins : List (Addr × Obj)} {σ : L2.St} {H HZ : Hp} {s s1 : Shared}
theorem lam_startD {A : Around} {outer : List Env} {E : XK} {scope : Scope} {f c' : Addr} {h₁ : Heap} {tk : Nat} {m : Str → Option Value} (I : L2.Inv X pins σ H s) (L : LamD X.N X.env.scope scope) (e0 : Env0 X.prog X.w X.K X.mg X.base A outer s1 HZ) (calm : A.handled = none)
    (un : Un (frs X.stack) [] H HZ s.heap s1.heap) (ns : h₁.Ns s1.heap.objs.size m) (kp : ∀ b o, s1.heap.get? b = some o → h₁.get? b = some o) : L2.Inv (lamCx X A outer s1 HZ E scope f c') [] σ HZ { s1 with heap := h₁, toks := tk } := by
  have back : ∀ {y c}, (cloFrom X.env.cells scope.names []).lookup y = some c → X.env.cells.lookup y = some c := fun {y c} e => by
    rcases cloFrom_mem (PySem.mem_of_lookup e) with hm | ⟨h1, h2⟩
    · cases hm
    · obtain ⟨c1, hc⟩ := L.has I.ok _ h1 rfl
      have hc : X.env.cells.lookup y = some c1 := hc
      have e2 : c = c1 := by
        rw [h2, hc] <;> rfl
      rw [e2]
      exact hc
  have forth : ∀ {y}, scope.names.lookup y = some .free → ∃ c, (cloFrom X.env.cells scope.names []).lookup y = some c := fun {y} e => mem_lookup (cloFrom_has (cells := X.env.cells) (acc := []) (show (y, NameKind.free) ∈ scope.names from PySem.mem_of_lookup e))
  have cellK : ∀ {c : Addr} {v : Option Value}, H c = none → s.heap.IsCell c v → h₁.IsCell c v := fun {c v} n ⟨o, ho, hd⟩ => by
    obtain ⟨sl, q⟩ := un.any ho n (fun z => nomatch z)
    exact ⟨_, kp _ _ q, hd⟩
  have noX : ∀ b : Addr, b ∉ (lamCx X A outer s1 HZ E scope f c').ex := fun b z => nomatch (show b ∈ ([] : List Addr) from z)
  have okL : (lamCx X A outer s1 HZ E scope f c').Ok := {
    mod := e0.mod
    kind := L.kind
    glob := rfl
    blt := rfl
    above := Nat.le_refl _
    inj := fun y z c e1 e2 => I.ok.inj y z c (back e1) (back e2)
    has := fun y hy => by
      have hy : scope.names.lookup y = some .cell ∨ scope.names.lookup y = some .free := hy
      rcases hy with hy | hy
      · exact absurd rfl (L.nocell _ (PySem.mem_of_lookup hy))
      · exact forth hy
    cab := fun y c z _ => by
      have z : false = true := z
      cases z
    hd := fun _ => calm
    frames := Around.frames_deeper e0.frames
    stk := .inr ⟨rfl, rfl⟩
    exf := fun b z => absurd z (noX b)
    bs := e0.bs
    bsz := e0.bsz
    noex := fun b _ _ => noX b
    exfs := fun b z => absurd z (noX b)
    funs := e0.funs
    frf := e0.frf }
  refine { ok := okL, os := rfl, bare := e0.bare, base := Un.kept kp, loc := ⟨_, ns, fun i y v e1 e2 e3 => ?_⟩, cell := fun y c e => ?_, free := e0.hok.fresh (Nat.le_refl _), freeC := fun y c e => ?_, pin := fun q hq => (nomatch (show q ∈ ([] : List (Addr × Obj)) ++ [] from hq)), hok := e0.hok.kept kp, len := I.len }
  · have e3 : Vis scope y := e3
    rcases e3 with k | k | k
    · exact absurd (List.mem_of_getElem? e1) (L.ownN _ (PySem.mem_of_lookup k) rfl)
    · exact absurd rfl (L.nocell _ (PySem.mem_of_lookup k))
    · obtain ⟨m0, _, look⟩ := I.loc
      have fr := L.free _ (PySem.mem_of_lookup k) rfl
      obtain ⟨w', r, q⟩ := look i y v e1 e2 (.inr fr)
      obtain ⟨c2, h2⟩ := forth k
      refine ⟨w', r, .inr ⟨.inr k, c2, h2, ?_⟩⟩
      rcases q with ⟨kl, _⟩ | ⟨_, c3, e', z⟩
      · have kl : X.env.scope.names.lookup y = some .local := kl
        rcases fr with k2 | k2
        · have k2 : X.env.scope.names.lookup y = some .cell := k2
          rw [k2] at kl
          cases kl
        · have k2 : X.env.scope.names.lookup y = some .free := k2
          rw [k2] at kl
          cases kl
      · rw [back h2] at e'
        cases e'
        exact cellK (I.freeC y _ (back h2)) z
  · obtain ⟨v, z⟩ := I.cell y c (back e)
    exact ⟨v, cellK (I.freeC y c (back e)) z⟩
  · obtain ⟨v, o, ho, _⟩ := I.cell y c (back e)
    exact un.free c o ho (I.freeC y c (back e)) (fun z => nomatch z)
/-- x(), in the def that got it -/
theorem pe_actD {CXg : CXT} {Eg : XK} {Ng : List Str} {qg : Str} {sg : Scope} {g f c' T : Addr} {cdg pm ctv : Value} {tk0 : Tok} {params : Arguments} {body : Expr} {scope : Scope} {k i : Nat} {a y : Str} {pn : List (Addr × Obj)} {xe : Value → Shared → Prop} {W : WX} {E : XK} {tb : TE} {p1 p2 : Pos}
    (I : L2.Inv X pins σ H s) (L : LamD X.N X.env.scope scope) (hf : s.heap.get? f = some (objD (lq X) params body scope (cloFrom X.env.cells scope.names []) T pm (.ref c') ctv)) (fn : H f = none) (ff : f ∉ frs X.stack)
    (hT : s.heap.get? T = some { cls := .type "tuple", data := .seq #[.int 0 tk0] }) (Tn : H T = none) (Tf : T ∉ frs X.stack) (ly : scope.names.lookup y = some .local)
    (hbind : ∀ s1 : Shared, s1.heap.get? T = some { cls := .type "tuple", data := .seq #[.int 0 tk0] } → BindsTo s1 (fnD (lq X) params body scope (cloFrom X.env.cells scope.names []) T pm (.ref c') ctv) ⟨[], []⟩ [(y, .int 0 tk0)])
    (tk : Takes ((cxOf CXg X.prog X.w X.K X.mg X.base Ng qg sg g cdg X.A X.stack s H Eg).tr pn xe) W) (hW : ∀ cls d σ' H', E cls d H' → W cls d σ' H') (hr : Room (k + 1) (X.A.deeper (envOfC qg sg s.heap.objs.size g cdg)))
    (hbody : ∀ (A : Around) (outer : List Env) (s : Shared) (H : Hp), Room k (A.deeper (lamEnv X scope s.heap.objs.size f c')) → PE (lamCx X A outer s H E scope f c') body tb)
    (hN : Ng[i]? = some a) (hv : Vis sg a) (d1 : (a == ("__debug__" : Str)) = false := by decide) (d2 : (a == ("__classdict__" : Str)) = false := by decide) :
    PE ((cxOf CXg X.prog X.w X.K X.mg X.base Ng qg sg g cdg X.A X.stack s H Eg).tr pn xe) (.Call (.Name a p1) [] [] p2)
      (fun σZ HZ Q => σZ[i]? = some (some (.ref f)) ∧ HZ c' = some (CodeO c' (lq X)) ∧ tb σ HZ Q) := by
  refine ⟨fun pinsZ sZ σZ HZ Q IZ h => ?_⟩
  obtain ⟨h1, h2, h3⟩ := h
  refine wpAny_Call_Name_kw (thn ((pe_var (pos := p1) (i := i) hN hv d1 d2).run pinsZ sZ σZ HZ (fun v Hv => v = .ref f ∧ Hv = HZ) IZ ⟨.ref f, h1, rfl, rfl⟩) fun u s1 ⟨v, Hv, I1, r1, ev, eH⟩ => ?_)
  subst ev
  rw [eH] at I1
  obtain rfl : u = Value.ref f := r1
  have fat := I1.base.keep f _ hf fn ff (fun z => nomatch (show f ∈ ([] : List Addr) from z))
  have Tat := I1.base.keep T _ hT Tn Tf (fun z => nomatch (show T ∈ ([] : List Addr) from z))
  have un : Un (frs X.stack) [] H HZ s.heap s1.heap := I1.base
  obtain ⟨⟨oc, vs, t, q1, q2, q3⟩, _, _⟩ := I1.hok c' _ h2
  refine PySem.W.callWith_F0 ⟨_, _, _, _, fat⟩ ?_
  have run : codeAny (model X.prog X.w) (X.A.deeper (envOfC qg sg s.heap.objs.size g cdg)) (.call (.ref f) ⟨[], []⟩) (CR (L2.CX X.prog X.w) (envOfC qg sg s.heap.objs.size g cdg :: X.stack) X.prog X.w HZ s1 Q E) s1 := by
    refine PySem.W.kla_callFunE hr.depth fat rfl L.co L.gen rfl ⟨c', oc, vs, t, rfl, q1, q2, q3⟩ (hbind s1 Tat _ _ _ _ ?_)
    refine wpAny_newFunctionEnv L.nocell (fun z hz => ?_) (fun h₁ ns sb => ⟨I1.nolimit.fresh _ sb, ?_⟩) L.kind
    · rw [List.mem_singleton] at hz
      rw [hz]
      exact ly
    have kp : ∀ b o, s1.heap.get? b = some o → h₁.get? b = some o := fun b o e => sb.extBut b o (Nat.ne_of_lt (Heap.lt_size e)) (Heap.get?_push_of_some _ e)
    have J := lam_startD (E := E) (f := f) (c' := c') (tk := s1.toks + [(y, Value.int 0 tk0)].length) I L I1.env0 hr.hd un ns kp
    refine PySem.W.kla_codeExpr (wpAny_mono ((hbody _ _ s1 HZ (hr.deeper _)).run [] _ _ HZ Q J h3) (fun v s' got => ?_) fun e s' got => got)
    obtain ⟨w', H', J', rv, q⟩ := got
    exact ⟨w', H', J'.os, J'.bare, J'.base, J'.hok, rv, q⟩
  have out : Passes (L2.CX X.prog X.w) ((cxOf CXg X.prog X.w X.K X.mg X.base Ng qg sg g cdg X.A X.stack s H Eg).tr pn xe) E := passes_call tk hW
  refine wpAny_call (codeAny_mono run fun r s' got => ?_)
  cases r with
  | error e => exact out pinsZ σZ HZ s1 e s' I1 got
  | ok fl =>
    cases fl with
    | ret u => exact I1.after got
    | next => exact (show False from got).elim
    | brk => exact (show False from got).elim
    | cont => exact (show False from got).elim
end
section
variable {X : Cx}
/-- x(lambda y=0: body) -/
theorem pe_lamcallD {Ts : List (Addr × Str)} {TT : (XK → Hp → VK → Prop) → Hp → VK → Prop} {x a y : Str} {g c P : Addr} {k : Nat} {pg : Arguments} {bg : List Stmt} {sg : Scope} {dV kV doc pm cdv ct oc : Value} {an od : Option Addr} {osl : Array (Option Value)} {Ng : List Str}
    {params : Arguments} {body : Expr} {scope : Scope} {t : XK → TE} {p lpos pos : Pos} {m : Sem Value} (hg : Gl X x) (hm : X.mg x = some (.ref g)) (hk : PySem.W.keepIn X.K (.ref g) = true)
    (lk : X.K.lookup g = some ⟨oc, od, .func (PySem.W.fnOf x x pg bg sg dV kV doc pm an cdv ct), osl⟩) (hcg : PySem.W.codeIn X.K cdv x = true) (hb : L2.Binds X.K (PySem.W.fnOf x x pg bg sg dV kV doc pm an cdv ct) [a] []) (Sg : FnScope Ng [a] sg) (hNg : Ng[0]? = some a) (hva : Vis sg a)
    (hG : GivesTo X Ng x sg g cdv bg a (lq X) TT) (TB : TabB X.base X.mg c P) (ec : X.env.code = .ref c) (mem : (P, lq X) ∈ Ts) (uniq : ∀ p ∈ Ts, p.1 = P → p.2 = lq X) (hr : Room (k + 2) X.A) (L : LamD X.N X.env.scope scope) (hdef : defaultsOf params X.env = ([m], []))
    (em : ∀ (s : Shared) (Q E : Value → Shared → Prop), (∀ tk t', Q (.int 0 tk) { s with toks := t' }) → wpAny (model X.prog X.w) X.A m Q E s) (ly : scope.names.lookup y = some .local)
    (hbind : ∀ (s1 : Shared) (cl : List (Str × Addr)) (T : Addr) (tk0 : Tok) (pm cv ctv : Value), s1.heap.get? T = some { cls := .type "tuple", data := .seq #[.int 0 tk0] } → BindsTo s1 (fnD (lq X) params body scope cl T pm cv ctv) ⟨[], []⟩ [(y, .int 0 tk0)])
    (hbody : ∀ (A : Around) (outer : List Env) (s : Shared) (H : Hp) (E : XK) (f c' : Addr), Room k (A.deeper (lamEnv X scope s.heap.objs.size f c')) → PE (lamCx X A outer s H E scope f c') body (t E))
    (db : (x == ("__debug__" : Str)) = false := by decide) (d1 : (a == ("__debug__" : Str)) = false := by decide) (d2 : (a == ("__classdict__" : Str)) = false := by decide) :
    PE X (.Call (.Name x p) [.Lambda params body scope lpos] [] pos) (tLam Ts TT t) := by
  refine ⟨fun pins s σ H Q I h => ?_⟩
  obtain ⟨tabs, want⟩ := h
  refine wpAny_Call_Name_kw (ld_glob I hg hm ?_ db)
  refine PySem.W.callWith_K (h₀ := X.base) I.ok.mod.kin hk ?_ (by rfl) (by rfl)
  show wpAny _ _ (spliced ((false, eval (.Lambda params body scope lpos) X.env) :: backTo pos (starEach [] X.env))) _ _ s
  refine Calls.spliced_cons (lam_makeD I TB ec mem uniq tabs L hdef em fun f c' T pm' ctv tk0 H1 s' I1 eN T1 hf fn ff hT Tn Tf hco => Calls.spliced_nil ⟨I1.kIn, ?_⟩)
  have run : codeAny (model X.prog X.w) X.A (.call (.ref g) ⟨[.ref f], []⟩) (CR C8.CX0 X.stack X.prog X.w H1 s' Q C8.E0) s' := by
    refine run_ofS (N := Ng) (ps := [a]) (us := [.ref f]) (vs := [.ref f]) lk hcg Sg hr I1.env0 (hb s' [.ref f] I1.kIn rfl) (.cons rfl .nil) rfl fun hr' => ?_
    obtain ⟨t', ht', hq'⟩ := hG f c' s' H1 Q (fun E H' Q' => t E σ H' Q') (fun W pn xe E p1 p2 tk hW => pe_actD (i := 0) I1 L hf fn ff hT Tn Tf ly (fun s1 e => hbind s1 _ T tk0 _ _ _ e) tk hW hr' (fun A outer s H hr2 => hbody A outer s H E f c' hr2) hNg hva d1 d2) hco (want H1 eN T1)
    exact ⟨t', ht'.nox, hq'⟩
  refine wpAny_call (codeAny_mono run fun r s2 got => ?_)
  cases r with
  | error e => exact (show False from got).elim
  | ok fl =>
    cases fl with
    | ret u => exact I1.after got
    | next => exact (show False from got).elim
    | brk => exact (show False from got).elim
    | cont => exact (show False from got).elim
end
end KX

set_option Elab.async false
set_option maxRecDepth 100000
set_option maxHeartbeats 4000000
/-! raise C(place): C's own __init__ says super().__init__(f'..{place}') and keeps the place. -/
namespace KX
open PySem PySem.Spec PyProof.Rows L2
abbrev iniScope : Scope := { kind := .function, names := [("self", .local), ("place", .local), ("__class__", .free), ("super", .globalImplicit)], isGenerator := false, isCoroutine := false, more := [] }
abbrev iniArgs (a0 a1 : Pos) : Arguments := { posonlyargs := [], args := [{ arg := "self", annotation := none, pos := a0 }, { arg := "place", annotation := none, pos := a1 }], vararg := none, kwonlyargs := [], kw_defaults := [], kwarg := none, defaults := [] }
abbrev iniSup (p0 p1 : Pos) : Expr := .Call (.Name "super" p0) [] [] p1
abbrev iniTxt (txt : Str) (p3 p4 p5 p6 : Pos) : Expr := .JoinedStr [.Constant (.str txt) 0 p3, .FormattedValue (.Name "place" p4) (-1) none p5] p6
abbrev iniBody (txt : Str) (p0 p1 p2 p3 p4 p5 p6 p7 p8 q0 q1 q2 q3 : Pos) : List Stmt :=
  [.Expr (.Call (.Attribute (iniSup p0 p1) "__init__" p2) [iniTxt txt p3 p4 p5 p6] [] p7) p8,
    .Assign [.Attribute (.Name "self" q0) "place" q1] (.Name "place" q2) q3]
/-- how the call of super().__init__ is read -/
def IniCall (txt : Str) (p0 p1 p2 p3 p4 p5 p6 p7 : Pos) : Prop := ∃ pl : Env → Sem Bool, ∀ env : Env, eval (.Call (.Attribute (iniSup p0 p1) "__init__" p2) [iniTxt txt p3 p4 p5 p6] [] p7) env = (do
  let ov ← attributeBase (iniSup p0 p1) "__init__" env (eval (iniSup p0 p1) env)
  standAt p2.atName
  let (f, first) ← holding [ov] (getMethod ov "__init__" (pl env))
  callWith p7 f first (backTo p7 (starEach [iniTxt txt p3 p4 p5 p6] env)) [])
/-- what the written part says of such a class: its __init__ at fI -/
structure KerI (P : Program) (K : PySem.W.Frag) (mg : Str → Option Value) (C fI : Addr) : Prop where
  oex : OexC K C
  iC : PySem.W.findIn K (.ref C) "__init__" = some (some (.ref fI))
  tI : PySem.W.typeIn K (.ref fI) = some (.type "function")
  fn : ∃ (cc cda : Addr) (qual txt file : Str) (tf : Tok) (vs : Array Value) (a0 a1 p0 p1 p2 p3 p4 p5 p6 p7 p8 q0 q1 q2 q3 : Pos) (oc kV doc pm ct ccl cl : Value) (od an cdd cld : Option Addr) (osl ccs csl : Array (Option Value)),
    K.lookup fI = some ⟨oc, od, .func (PySem.W.ksFn "__init__" qual (iniArgs a0 a1) (iniBody txt p0 p1 p2 p3 p4 p5 p6 p7 p8 q0 q1 q2 q3) iniScope .none kV doc pm an (.ref cda) ct cc), osl⟩ ∧ PySem.W.codeIn K (.ref cda) qual = true ∧
    K.lookup cda = some ⟨ccl, cdd, .fields vs, ccs⟩ ∧ vs[2]? = some (.str file tf) ∧ ((P.main.file : Str) == file) = true ∧ K.lookup cc = some ⟨cl, cld, .cell (some (.ref C)), csl⟩ ∧ txt.length ≤ 90 ∧ IniCall txt p0 p1 p2 p3 p4 p5 p6 p7
  top : (P.main.scope.names.lookup ("super" : Str)).isSome = false
  sub : PySem.W.mroIn K C (.ref C) = some true
  sup : mg "super" = none
  opq : PySem.W.nsIn K cStatics "thirdparty.any" = some none
  nxt : PySem.W.ks_superIn K C C "__init__" = some (some (.builtin "ValueError.__init__"))
  veC : PySem.W.subIn K (.ref C) (.type "ValueError") = some true
  own : PySem.W.findIn K (.ref C) "place" = some none
section
variable {P : Program} {w : World} {A : Around} {R : Result → Shared → Prop} {K : PySem.W.Frag} {mg mb : Str → Option Value} {fI C x t0 tp : Addr} {hp : Heap} {g : Array GenState} {d : Drawn} {t : Nat} {os : OsState} {ot : Obj} {items : Array Value} {n : Nat} {ts : List Str}
theorem ini_runs (T : KerI P K mg C fI) (X : K.In hp) (hg : hp.Ns mainGlobals mg) (hb : hp.Ns builtinsNs mb) (hbb : mb "super" = some (.type "super")) (lim : hp.NoLimit) (room : A.depth < recursionLimit) (un : A.units + 20 < cLine)
    (hx : hp.get? x = some (HandSPX.excO C t0)) (nK : K.lookup x = none) (tup : hp.get? tp = some ot) (otc : ot.cls = .type "tuple") (otd : ot.data = .seq items n) (rep : ReprAll P w items.toList ts) (sz : (tupleText ts).length + 100 ≤ sizeLine)
    (hq : ∀ h' tk' dx t1, (∀ b o, b ≠ x → hp.get? b = some o → h'.get? b = some o) → hp.objs.size ≤ dx → dx ≠ x → h'.get? x = some { cls := .ref C, dict := some dx, data := .fields #[.ref t1, .none, .none, .none, .bool false, .none] } →
      h'.Ns1 dx (fun y => if y = "place" then some (.ref tp) else none) → R (.ok (.ret .none)) ⟨h', g, d, tk', os⟩) :
    codeAny (model P w) A (.call (.ref fI) ⟨[.ref x, .ref tp], []⟩) R ⟨hp, g, d, t, os⟩ := by
  obtain ⟨cc, cda, qual, txt, file, tf, vs, a0, a1, p0, p1, p2, p3, p4, p5, p6, p7, p8, q0, q1, q2, q3, oc, kV, doc, pm, ct, ccl, cl, od, an, cdd, cld, osl, ccs, csl, lk, hcd, lc, hv2, hfile, lcell, ltxt, pl, eq⟩ := T.fn
  obtain ⟨nm, q, N, bs, bm, sn, sub, ab, col, dd, k0, k1, k2, k3, k5, hC, hbm⟩ := T.oex.cls
  have hcl : PySem.W.clsIn K C = some { name := nm, bases := bs, mro := .ref C :: bm, ns := N, qualname := q, hasDict := true, slotNames := sn, subclasses := sub, abstract := ab, collection := col, hasDel := false } := by
    unfold PySem.W.clsIn
    rw [hC] <;> rfl
  refine ks_codeAny_call_defAt (fd := PySem.W.ksFn "__init__" qual (iniArgs a0 a1) (iniBody txt p0 p1 p2 p3 p4 p5 p6 p7 p8 q0 q1 q2 q3) iniScope .none kV doc pm an (.ref cda) ct cc) (body := iniBody txt p0 p1 p2 p3 p4 p5 p6 p7 p8 q0 q1 q2 q3)
    (binds := [("self", .ref x), ("place", .ref tp)]) room (X _ _ lk) rfl lim (PySem.W.codeRec_of X hcd) rfl (BindsTo.of_eq rfl) (by show ∀ y ∈ iniScope.names, _; decide) (fun y hy => ?_) fun h1 ns1 kp1 => ?_
  · rcases List.mem_cons.mp hy with rfl | hy
    · rfl
    · rcases List.mem_cons.mp hy with rfl | hy
      · rfl
      · cases hy
  have X1 : K.In h1 := X.keeps kp1
  have hC1 := X1 _ _ hC
  refine ks_wpAt_execs_cons (ks_wpAt_Expr_any (ks_wpAt_MethodCall (pl := pl _) ?_ (eq _)))
  refine ks_wpAt_super_base (env := PySem.W.ksEnv qual iniScope hp.objs.size fI (.ref cda) cc) rfl rfl rfl rfl (X1 _ _ lk) rfl rfl rfl (X1 _ _ lc) rfl hv2 hfile T.top ?_
  refine PySem.W.ks_loadName_global rfl rfl (Calls.loadGlobal_builtin (env := PySem.W.ksEnv qual iniScope hp.objs.size fI (.ref cda) cc) (hg.keeps kp1) T.sup (hb.keeps kp1) hbb ⟨rfl, ?_⟩)
  refine wpAny_loadName_free rfl rfl rfl ⟨_, X1 _ _ lcell, rfl⟩ ?_
  refine wpAny_loadName_local rfl rfl ns1 (v := .ref x) rfl ?_
  refine ks_wpAny_isType_cls hC1 rfl ⟨rfl, ?_⟩
  have hx1 := kp1 _ _ hx
  refine ks_wpAny_call_super hC1 rfl hx1 rfl (fun c e => by cases e) (PySem.W.looks_mroIn X1 T.sub) fun h2 so2 kp2 => ?_
  have X2 : K.In h2 := X1.keeps kp2
  have hx2 := kp2 _ _ hx1
  have I2 : PySem.W.InstAt h2 x (HandSPX.excO C t0) C none := ⟨hx2, rfl, rfl, trivial⟩
  have nxt := T.nxt
  unfold PySem.W.ks_superIn at nxt
  rw [hcl, Option.bind_some] at nxt
  refine PySem.W.kxs_getMethod PySem.W.kxs_ValueError so2 (PySem.W.looks_opaque X2 T.opq) (l₀ := .ref C :: bm) (fun A Q E s k q => wpAny_bind ((PySem.W.looks_clsIn X2 hcl) A _ E s k (wpAny_pure q))) rfl X2 nxt (I2.type.andThen (PySem.W.looks_subIn X2 T.veC)) (PySem.W.ks_ne X2 I2 hcl) rfl ?_
  have kp3 : ∀ b o, h2.get? b = some o → (h2.push (PySem.W.kxs_mw "ValueError.__init__" x)).get? b = some o := fun b o e => Heap.get?_push_of_some _ e
  have bw3 : (h2.push (PySem.W.kxs_mw "ValueError.__init__" x)).get? h2.objs.size = some (PySem.W.kxs_mw "ValueError.__init__" x) := Heap.get?_push_at rfl rfl
  generalize h2.push (PySem.W.kxs_mw "ValueError.__init__" x) = h3 at kp3 bw3
  have hx3 := kp3 _ _ hx2
  have hC3 := kp3 _ _ (kp2 _ _ hC1)
  have tup3 := kp3 _ _ (kp2 _ _ (kp1 _ _ tup))
  have ns3 : h3.Ns hp.objs.size _ := (ns1.keeps kp2).keeps kp3
  refine PySem.W.kxs_callWith (i := "ValueError.__init__") (x := x) rfl (Calls.evalArgs_plain (Calls.spliced_cons ?_))
  refine wpAny_JoinedStr (pos := p6) ?_
  have lt90 : (Str.empty ++ txt).length ≤ 90 := by
    rw [strLen_append]
    show 0 + txt.length ≤ 90
    omega
  have szl : 1000 ≤ sizeLine := by
    rw [sizeLine_eq]
    omega
  refine wpAny_Constant_str ⟨txt, _, rfl, by omega, ?_⟩
  refine wpAny_FormattedValue_plain (wpAny_Name (wpAny_loadName_local rfl rfl ns3 (v := .ref tp) rfl ?_))
  have un1 : (A.deeper (PySem.W.ksEnv qual iniScope hp.objs.size fI (.ref cda) cc)).units + 2 < cLine := by
    show A.units + 3 + 2 < cLine
    omega
  refine fmt_tuple un1 tup3 otc otd rep (by omega) fun m u tk hm => ⟨m, u, rfl, ?_, ?_⟩
  · rw [strLen_append]
    omega
  refine ⟨by rw [strLen_append]; omega, ?_⟩
  refine Calls.spliced_nil ⟨bw3, ?_⟩
  -- ValueError.__init__, bound
  refine wpAny_call (codeAny_of_tree ?_)
  show wpAny _ (Around.in1 _) (callAny (.ref h2.objs.size) ⟨[_], []⟩) _ _ _
  unfold callAny
  refine wpAny_bind (wpAny_load bw3 ?_)
  refine PySem.W.KFB.if_so (by show (Value.type "method-wrapper" == Value.type "method" || Value.type "method-wrapper" == Value.type "builtin_function_or_method" || Value.type "method-wrapper" == Value.type "method-wrapper") = true; decide) (wpAny_bind (PySem.W.check_bound_init F.excBase_ValueError.toExcCallFacts hC3 hx3 rfl ?_))
  refine wpAny_bind (wpAny_pure (wpAny_pure ⟨plainId_quiet F.excBase_ValueError.init.plain _, codeAny_builtin F.excBase_ValueError.initEntry ?_⟩))
  refine PySem.W.exc_init_tree (cls := .ref C) (t0 := t0) (dv := none) (c2 := .none) (c3 := .none) (b4 := .bool false) hx3 (by show 1 ≤ sizeLine; omega) fun h4 kp4 hx4 tup4 => ?_
  have xL : hp.objs.size ≠ x := Nat.ne_of_gt (Heap.lt_size hx)
  have cne : ∀ {b o}, K.lookup b = some o → b ≠ x := fun {b o} e z => by
    rw [z, nK] at e
    cases e
  have X4 : K.In h4 := fun b o e => kp4 b o (cne e) ((X2.keeps kp3) b o e)
  have ns4 : h4.Ns hp.objs.size (fun y => ([("self", Value.ref x), ("place", Value.ref tp)] : List (Str × Value)).reverse.lookup y) := by
    obtain ⟨oL, es, ep, e1, e2⟩ := ns3
    exact ⟨oL, es, ep, kp4 _ _ xL e1, e2⟩
  refine ks_wpAt_execs_cons (ks_wpAt_Assign_Attr (wpAt_of_wpAny (wpAny_Name (wpAny_loadName_local rfl rfl ns4 (v := .ref tp) rfl ?_))))
  refine wpAny_Name (wpAny_loadName_local rfl rfl ns4 (v := .ref x) rfl ?_)
  refine PySem.W.set_plain X4 (ox := HandSPX.excO C h3.objs.size) (od := none) ⟨hx4, rfl, rfl, trivial⟩ T.oex.sa ?_
  refine HandSPX.exc_osa X4 hx4 hcl (show HandSPX.refsVE (.ref C :: bm) = true from hbm) rfl T.own fun h5 tk5 dx kp5 dn dne hx5 hn5 => ?_
  refine wpAt_of_wpAny (wpAny_execs_nil ?_)
  have k0 : ∀ b o, b ≠ x → hp.get? b = some o → h5.get? b = some o := fun b o nb e => kp5 b o nb (kp4 b o nb (kp3 b o (kp2 b o (kp1 b o e))))
  refine hq h5 tk5 dx _ k0 ?_ dne hx5 hn5
  obtain ⟨oL, es, ep, e1, e2⟩ := ns4
  exact Nat.le_trans (Nat.le_of_lt (Heap.lt_size e1)) dn
end
end KX

set_option Elab.async false
set_option maxRecDepth 100000
set_option maxHeartbeats 4000000
/-! raise C(place), as a rule. -/
namespace KX
open PySem PySem.Spec PyProof.Rows L2
/-- a place: a tuple of a few small numbers and short texts -/
def PlaceOk (xs : List V) : Prop := xs.length ≤ 3 ∧ ∀ x ∈ xs, (∃ i : Nat, x = .int i ∧ i ≤ 100) ∨ ∃ l : Str, x = .str l ∧ l.length ≤ 100 ∧ ∀ c ∈ l.cps.toList, c < 16 ^ 8
theorem num_small : ∀ i : Fin 101, ((toString ((i.val : Nat) : Int) : String) : Str).length ≤ 10 ∧ ((i.val : Nat) : Int).natAbs.log2 < 1920 := by decide +kernel
theorem sz10000 : 10000 ≤ sizeLine := by
  rw [sizeLine_eq]
  omega
theorem place_repr {P : Program} {w : World} : ∀ {xs : List V} {its : List Value}, Vals xs its → (∀ x ∈ xs, (∃ i : Nat, x = .int i ∧ i ≤ 100) ∨ ∃ l : Str, x = .str l ∧ l.length ≤ 100 ∧ ∀ c ∈ l.cps.toList, c < 16 ^ 8) →
    ∃ ts, ReprAll P w its ts ∧ piled ts ≤ 1100 * xs.length
  | [], _, .nil, _ => ⟨[], .nil, Nat.zero_le _⟩
  | x :: xs, u :: us, .cons r rs, h => by
    obtain ⟨ts, h1, h2⟩ := place_repr rs fun y hy => h y (List.mem_cons_of_mem _ hy)
    have z := sz10000
    rcases h x List.mem_cons_self with ⟨i, rfl, hi⟩ | ⟨l, rfl, hl, hc⟩
    · obtain ⟨t, rfl⟩ := r
      obtain ⟨q1, q2⟩ := num_small ⟨i, by omega⟩
      refine ⟨_, .cons (ReprIs.int t q2) h1, ?_⟩
      rw [piled_cons, List.length_cons]
      have q3 : ((toString (i : Int) : String) : Str).length ≤ 10 := q1
      omega
    · obtain ⟨t, rfl⟩ := r
      have q1 := StrLaws.reprText_len l hc
      refine ⟨_, .cons (ReprIs.str l t (by omega)) h1, ?_⟩
      rw [piled_cons, List.length_cons]
      omega
/-- C(e), to be raised -/
def tKer (K : PySem.W.Frag) (C : Addr) (ta : TA) : L2.St → Hp → XK → Prop := fun σ H Q => ta σ H fun vs H1 => ∃ (tp : Addr) (xs : List V), vs = [.ref tp] ∧ SqT K H1 tp xs ∧ PlaceOk xs ∧ ∀ dx, H1 dx = none → Q (.ref C) (some dx) (upd H1 dx (.xd [("place", .ref tp)]))
section
variable {X : Cx} {x : Str} {C fI : Addr} {k : Nat} {e : Expr} {ta : TA} {p pos : Pos}
theorem pmk_ker (T : KerI X.prog X.K X.mg C fI) (hr : Room (k + 1) X.A) (hg : Gl X x) (hm : X.mg x = some (.ref C)) (ha : PA X [e] ta)
    (db : (x == ("__debug__" : Str)) = false := by decide) (he : starEach [e] X.env = (false, eval e X.env) :: starEach [] X.env := by rfl) (hpl : (backTo pos (starEach [] X.env)).any (·.1) = false := by rfl) :
    PMk X (.Call (.Name x p) [e] [] pos) (tKer X.K C ta) := by
  intro pins s σ H Q I h
  obtain ⟨nm, q, N, bs, bm, sn, sub, ab, col, dd, k0, k1, k2, k3, k5, hC, hbm⟩ := T.oex.cls
  refine wpAny_Call_Name_kw (ld_glob I hg hm ?_ db)
  refine PySem.W.callWith_K (h₀ := X.base) I.ok.mod.kin T.oex.kC (thn (ha.run pos pins s σ H _ I h) fun us s1 got => ?_) he hpl
  obtain ⟨vs, H1, I1, r1, tp, xs, rfl, sq, pl, qd⟩ := got
  refine ⟨I1.kIn, ?_⟩
  obtain ⟨u, rfl, ru⟩ := vals1 r1
  cases (show u = Value.ref tp from ru)
  obtain ⟨its, rv, ⟨ot, ho, hcl, n, hd⟩, hz⟩ := I1.tuple sq
  obtain ⟨ts, rep, pz⟩ := place_repr (P := X.prog) (w := X.w) rv pl.2
  have tz := fmt_text ts
  have z := sz10000
  have len3 := pl.1
  have I1' := I1
  obtain ⟨hp, g, dr, tk, os⟩ := s1
  have kk : ∀ b o, hp.get? b = some o → ((hp.push (PySem.W.kdv_tup [.ref tp])).push (HandSPX.excO C hp.objs.size)).get? b = some o := fun b o e => Heap.get?_push_of_some _ (Heap.get?_push_of_some _ e)
  have hget : ((hp.push (PySem.W.kdv_tup [.ref tp])).push (HandSPX.excO C hp.objs.size)).get? (hp.objs.size + 1) = some (HandSPX.excO C hp.objs.size) := by heap_get
  have sz2 : ((hp.push (PySem.W.kdv_tup [.ref tp])).push (HandSPX.excO C hp.objs.size)).objs.size = hp.objs.size + 2 := by rw [Heap.size_push, Heap.size_push]
  have noA : ∀ {b : Addr} {o : Obj}, hp.get? b = some o → b ≠ hp.objs.size + 1 := fun {b o} e z => by
    have q := Heap.lt_size e
    rw [z] at q
    exact absurd q (Nat.not_lt.mpr (Nat.le_succ _))
  have kX : X.K.In hp := I1.kIn
  obtain ⟨mb, nb1, nb2⟩ := I1.mod.blt
  show wpAny _ _ (call (.ref C) [.ref tp]) _ _ _
  refine wpAny_call (HandSPX.call_own F.excBase_ValueError (fun Y => HandSPX.refsVE_contains Y bm hbm) (kX _ _ hC) (PySem.W.looks_findIn kX T.iC) (fun self => PySem.W.bind_fn kX self T.tI) (by show 1 ≤ sizeLine; omega)
    (ini_runs (mb := mb) (tp := tp) (ts := ts) T (kX.keeps kk) ((I1.mod.glob.keeps I1.bk).keeps kk) ((nb1.keeps I1.bk).keeps kk) ((nb2 _ (by decide +kernel)).trans PyProof.Rows.Boot.«super») (I1.nolimit.keeps kk) (hr.make C [.ref tp] []).depth ?_ hget ?_ (kk _ _ ho) hcl hd ?_ (by omega) fun h' tk' dx t1 kp dn dne hx' hn => ?_))
  · exact Nat.lt_of_le_of_lt (Nat.add_le_add_left (by decide) _) (hr.make C [.ref tp] []).units
  · cases e : X.K.lookup (hp.objs.size + 1) with
    | none => rfl
    | some o => exact absurd rfl (noA (kX _ _ e))
  · exact rep
  · refine ⟨rfl, ?_⟩
    rw [sz2] at dn
    obtain ⟨G, g1, g2⟩ := restrict h' fun b => decide (b ≠ hp.objs.size + 1)
    have gk : ∀ b, b ≠ hp.objs.size + 1 → G.get? b = h'.get? b := fun b hb => g1 b (decide_eq_true hb)
    have ga : G.get? (hp.objs.size + 1) = none := g2 _ (by simp)
    have fr : H1 dx = none := I1'.hok.fresh (show hp.objs.size ≤ dx by omega)
    have fa : H1 (hp.objs.size + 1) = none := I1'.hok.fresh (show hp.objs.size ≤ hp.objs.size + 1 by omega)
    have rel : ∀ f, RelO (([("place", V.ref tp)] : List (Str × V)).lookup f) (if f = "place" then some (Value.ref tp) else none) := relO_put (fs := []) (mA := fun _ => none) (show RelV (.ref tp) (.ref tp) from rfl) fun _ => True.intro
    have J : L2.Inv X pins σ (upd H1 dx (.xd [("place", .ref tp)])) ⟨G, g, dr, tk', os⟩ := by
      refine I1'.laid (t' := tk') (a := dx) (o := .xd [("place", .ref tp)]) (h' := G) (fun b u e => ?_) (show hp.objs.size ≤ dx by omega) ⟨_, hn.at fun o q => (gk dx dne).trans q, rel⟩
      have e' : hp.get? b = some u := e
      rw [gk b (noA e')]
      exact kp b u (noA e') (kk b u e')
    refine ⟨hp.objs.size + 1, _, _, ⟨G, g, dr, tk', os⟩, _, .ref C, some dx, rfl, J, fun b o e => ?_, ga, hx', ⟨rfl, rfl⟩, rfl, rfl, ?_, rfl, I1'.bare, raises_own T.oex.exC T.oex.tyC, qd dx fr⟩
    · have nb : b ≠ hp.objs.size + 1 := fun z => by
        rw [z] at e
        exact absurd (ga.symm.trans e) (by simp)
      exact (gk b nb).symm.trans e
    · rw [upd_ne (Ne.symm dne)]
      exact fa
end
end KX

set_option Elab.async false
set_option maxRecDepth 100000
set_option maxHeartbeats 4000000
/-! Things of any kind: what words and lines they are. -/
namespace KN
open PySem PySem.Spec PyProof.Rows L2 SX Evl KL KX
/-- a thing that may stand in a line: a text, or something else -/
inductive El (K : PySem.W.Frag) (H : Hp) : V → Option (List Nat) → Prop where
  | txt (l : List Nat) (h : l.length ≤ 1000) (asc : ∀ c ∈ l, c < 1114112) : El K H (ss l) (some l)
  | odd (v : V) (t : Value) (ty : TyX K H v t) (no : PySem.W.kitOne K t (.type "str") = some false) : El K H v none
/-- a thing that may be a line: a tuple of such things, or something else -/
inductive Th (K : PySem.W.Frag) (H : Hp) : V → Option (List (Option (List Nat))) → Prop where
  | tup (a : Addr) (xs : List V) (es : List (Option (List Nat))) (at_ : SqT K H a xs) (el : Paired (El K H) xs es) (few : xs.length ≤ 1000) : Th K H (.ref a) (some es)
  | oth (v : V) (t : Value) (ty : TyX K H v t) (no : PySem.W.kitOne K t (.type "tuple") = some false) : Th K H v none
theorem TyX.ext {K : PySem.W.Frag} {H H' : Hp} {v : V} {t : Value} (e : Ex H H') (h : TyX K H v t) : TyX K H' v t := by
  cases h with
  | base b =>
    cases b with
    | non => exact .base .non
    | bl y => exact .base (.bl y)
    | int i => exact .base (.int i)
    | str y => exact .base (.str y)
    | flt y => exact .base (.flt y)
    | lst ea => exact .base (.lst (e _ _ ea))
    | frz ea => exact .base (.frz (e _ _ ea))
    | tup ea => exact .base (.tup (e _ _ ea))
    | dK ea => exact .base (.dK (e _ _ ea))
    | dT ea => exact .base (.dT (e _ _ ea))
    | ins ea cl ha hn htk hm => exact .base (.ins (e _ _ ea) cl ha hn htk hm)
  | byt b => exact .byt b
  | set ea => exact .set (e _ _ ea)
  | kList ea c => exact .kList ea c
  | kTuple ea c => exact .kTuple ea c
  | kDict ea c => exact .kDict ea c
  | fTuple ea => exact .fTuple (e _ _ ea)
  | fDict ea => exact .fDict (e _ _ ea)
theorem El.ext {K : PySem.W.Frag} {H H' : Hp} {v : V} {o : Option (List Nat)} (e : Ex H H') (h : El K H v o) : El K H' v o := by
  cases h with
  | txt l h asc => exact .txt l h asc
  | odd v t ty no => exact .odd v t (TyX.ext e ty) no
theorem Th.ext {K : PySem.W.Frag} {H H' : Hp} {v : V} {o : Option (List (Option (List Nat)))} (e : Ex H H') (h : Th K H v o) : Th K H' v o := by
  cases h with
  | tup a xs es at_ el few => exact .tup a xs es (ex_t e at_) (L2.Paired.mapP el fun _ _ z => El.ext e z) few
  | oth v t ty no => exact .oth v t (TyX.ext e ty) no
def wordE : Option (List Nat) → Bool
  | some l => wordOk l
  | none => false
def nameE : Option (List Nat) → Bool
  | some l => nameOk l
  | none => false
/-- the number of the first item that is no word -/
def badAt (es : List (Option (List Nat))) : Option Nat := es.findIdx? fun e => !wordE e
/-- what need_line refuses, with the place -/
def needF : Option (List (Option (List Nat))) → Option (Option Nat)
  | none => some none
  | some es => if 80 < es.length then some none else (badAt es).map some
def placeV : Option Nat → List V
  | none => []
  | some n => [.int (n : Nat)]
/-- a def of the module that may raise -/
structure CalX (P : Program) (w : World) (K : PySem.W.Frag) (mg : Str → Option Value) (base : Heap) (k : Nat) (x : Str) (sp : Sp) : Prop where
  ex : ∃ (f : Addr) (fd : FuncData) (ps : List Str), FnOk P w K mg base (L2.CX P w) k f fd ps sp ∧ mg x = some (.ref f) ∧ PySem.W.keepIn K (.ref f) = true ∧ Binds K fd ps []
section
variable {P : Program} {w : World} {K : PySem.W.Frag} {mg : Str → Option Value} {base : Heap}
theorem calx {x : Str} {st : Stmt} {f : Addr} {fd : FuncData} {N ps : List Str} {k : Nat} {sp : Sp} (F : C8.Def K mg x st f fd) (b : Binds K fd ps []) (S : FnScope N ps (C8.fnScope st)) (len : ∀ vs H Q E, sp vs H Q E → vs.length = ps.length)
    (body : ∀ (cdv : Value) (A : Around) (outer : List Env) (s : Shared) (H : Hp) (vs : List V) (Q : VK) (E : XK), Room k (A.deeper (envOfC x (C8.fnScope st) s.heap.objs.size f cdv)) → sp vs H Q E →
      ∃ t, PSs (cxOf (L2.CX P w) P w K mg base N x (C8.fnScope st) f cdv A outer s H E) (C8.fnBody st) t ∧ t { nx := fun _ H' => Q .non H', rt := Q } (start N vs) H) : CalX P w K mg base (k + 1) x sp := by
  obtain ⟨oc, od, dV, kV, doc, pm, an, cdv, ct, osl, rfl, lk, hcd⟩ := F.fn.ex
  exact ⟨f, _, ps, fn_of lk hcd S len fun A outer s H vs Q E hr hsp => body cdv A outer s H vs Q E hr hsp, F.mgf, F.kp, b⟩
end
section
variable {X : Cx} {k j : Nat} {x : Str} {sp : Sp} {W : WX} {p pos : Pos} {e : Expr} {es : List Expr} {t : TA}
theorem pe_cx (c : CalX X.prog X.w X.K X.mg X.base k x sp) (tk : Takes X W) (hr : Room j X.A) (hk : k ≤ j) (hg : Gl X x) (ha : PA X (e :: es) t)
    (db : (x == ("__debug__" : Str)) = false := by decide) (he : starEach (e :: es) X.env = (false, eval e X.env) :: starEach es X.env := by rfl) (hpl : (backTo pos (starEach es X.env)).any (·.1) = false := by rfl) :
    PE X (.Call (.Name x p) (e :: es) [] pos) (tCallS sp (WE W) t) := by
  obtain ⟨f, fd, ps, F, hm, kp, b⟩ := c.ex
  exact pe_callS F (hr.mono hk) hg hm kp b (fun σ => passAt tk σ) ha db he hpl
end
/-! ### promises -/
def spWordE (K : PySem.W.Frag) : Sp := spP 1 fun vs H v => ∃ (x : V) (o : Option (List Nat)), vs = [x] ∧ El K H x o ∧ v = .bl (wordE o)
def spNameE (K : PySem.W.Frag) : Sp := spP 1 fun vs H v => ∃ (x : V) (o : Option (List Nat)), vs = [x] ∧ El K H x o ∧ v = .bl (nameE o)
/-- need_line: C the class BadLine -/
def spNeed (K : PySem.W.Frag) (C : Addr) : Sp := fun vs H Q E => vs.length = 1 ∧ ∃ (v : V) (o : Option (List (Option (List Nat)))), vs = [v] ∧ Th K H v o ∧ (needF o = none → ∀ H', Ex H H' → Q v H') ∧
  ∀ pl, needF o = some pl → ∀ (H' : Hp) (dd tp : Addr), Ex H H' → H' dd = some (.xd [("place", .ref tp)]) → SqT K H' tp (placeV pl) → E (.ref C) (some dd) H'
def sizeE (es : List (Option (List Nat))) : Nat := es.length + (es.map fun e => (e.getD []).length).sum
def spSize (K : PySem.W.Frag) (C : Addr) : Sp := fun vs H Q E => vs.length = 1 ∧ ∃ (v : V) (o : Option (List (Option (List Nat)))), vs = [v] ∧ Th K H v o ∧ (needF o = none → ∀ H', Ex H H' → Q (.int (sizeE (o.getD []) : Nat)) H') ∧
  ∀ pl, needF o = some pl → ∀ (H' : Hp) (dd tp : Addr), Ex H H' → H' dd = some (.xd [("place", .ref tp)]) → SqT K H' tp (placeV pl) → E (.ref C) (some dd) H'
/-- further builtins' names -/
structure BltS (mg : Str → Option Value) : Prop where
  sum_ : mg "sum" = none
  min_ : mg "min" = none
/-- the module's constants -/
structure Csts9 (mg : Str → Option Value) : Prop where
  g_MOST_SIGNS : ∃ u, mg "MOST_SIGNS" = some u ∧ RelV (.int 80) u
  g_MOST_WORDS : ∃ u, mg "MOST_WORDS" = some u ∧ RelV (.int 80) u
  g_LEAST_NAME : ∃ u, mg "LEAST_NAME" = some u ∧ RelV (.int 2) u
  g_MOST_NAME : ∃ u, mg "MOST_NAME" = some u ∧ RelV (.int 12) u
  g_NAME_SIGNS : ∃ u, mg "NAME_SIGNS" = some u ∧ RelV (.str sgName) u
  g_SIGNS : ∃ u, mg "SIGNS" = some u ∧ RelV (.str sgWord) u
end KN

set_option Elab.async false
set_option maxRecDepth 100000
set_option maxHeartbeats 4000000
/-! What the law's draws leave of the things made; texts times ints; lists of texts against []. -/
namespace KN
open PySem PySem.Spec PyProof.Rows L2 SX Evl KL KX
section
variable {X : Cx}
/-- one sign times an int -/
def rMulS : R2 := fun x y H Q => ∃ (c k : Nat), x = ss [c] ∧ y = .int (k : Nat) ∧ k ≤ 1000 ∧ Q (ss (List.replicate k c)) H
theorem op_mulS : OpR X (binaryOp .Mult) rMulS := by
  intro pins s σ H x y v u Q I rx ry h
  obtain ⟨c, k, rfl, rfl, hk, q⟩ := h
  obtain ⟨t, rfl⟩ := rx
  obtain ⟨t2, rfl⟩ := ry
  refine SB.mul (mulOk_of 1 1000 (by rw [S_len]; exact Nat.le_refl 1) (by omega) (by omega) (by omega) (by omega)) fun t' kk => ?_
  have e : Txt.mul (S [c]) (k : Int) = S (List.replicate k c) := by
    have z := mul_one_list c (k : Int)
    rw [Int.toNat_natCast] at z
    exact TL.ext_tl z
  rw [e]
  exact ⟨ss (List.replicate k c), H, I.tok _, ⟨t', rfl⟩, q⟩
end
theorem dp_strs (K : PySem.W.Frag) (H : Hp) : ∀ ls : List (List Nat), DpAll K H (ls.map ss) (ls.map fun l => PyData.str (S l))
  | [] => .nil
  | l :: ls => .cons (.str _) (dp_strs K H ls)
theorem strOk_of {l : List Nat} (h : ∀ c ∈ l, c < 1114112) : PyData.strOk (S l) = true := by
  unfold PyData.strOk
  rw [← Array.all_toList, List.all_eq_true]
  exact fun c hc => decide_eq_true (h c hc)
theorem lay_strs : ∀ ls : List (List Nat), (∀ l ∈ ls, ∀ c ∈ l, c < 1114112) → PyData.canLayAll0 (ls.map fun l => PyData.str (S l)) = true
  | [], _ => by simp [PyData.canLayAll0]
  | l :: ls, h => by simp [PyData.canLayAll0, PyData.canLay0, lay_strs ls fun x hx => h x (List.mem_cons_of_mem _ hx), strOk_of (h l List.mem_cons_self)]
theorem depth_strs : ∀ ls : List (List Nat), PyData.depthAll (ls.map fun l => PyData.str (S l)) = 0
  | [] => by simp [PyData.depthAll]
  | l :: ls => by simp [PyData.depthAll, PyData.depth, depth_strs ls]
theorem shaped_strs {ls : List (List Nat)} (h : ls.length ≤ 1000) (asc : ∀ l ∈ ls, ∀ c ∈ l, c < 1114112) : SeqAt.shaped (.list (ls.map fun l => PyData.str (S l))) = true := by
  unfold SeqAt.shaped
  have e : PyData.depth (.list (ls.map fun l => PyData.str (S l))) = 1 := by rw [PyData.depth, depth_strs]
  rw [e]
  have l : ls.length ≤ sizeLine := Nat.le_trans h (by decide)
  simp [PyData.canLay0, lay_strs ls asc, l]
theorem eqv_strs_nil : ∀ ls : List (List Nat), PyData.eqv (.list (ls.map fun l => PyData.str (S l))) (.list []) = ls.isEmpty
  | [] => by simp [PyData.eqv, PyData.eqvAll]
  | n :: ns => by simp [PyData.eqv, PyData.eqvAll]
theorem shaped_ints' {ns : List Int} (h : ns.length ≤ 1000) : SeqAt.shaped (.list (ns.map PyData.int)) = true := by
  unfold SeqAt.shaped
  have e : PyData.depth (.list (ns.map PyData.int)) = 1 := by rw [PyData.depth, depth_ints]
  rw [e]
  have l : ns.length ≤ sizeLine := Nat.le_trans h (by decide)
  simp [PyData.canLay0, lay_ints, l]
/-! ### the draws -/
theorem Chg.refl {st dL : Addr} {H : Hp} : Chg st dL H H := fun _ _ e _ _ => e
theorem Chg.trans {st dL : Addr} {H H1 H2 : Hp} (a : Chg st dL H H1) (b : Chg st dL H1 H2) : Chg st dL H H2 := fun c o e n1 n2 => b c o (a c o e n1 n2) n1 n2
theorem Chg.of {st dL : Addr} {H H1 : Hp} (a : Ex H H1) : Chg st dL H H1 := fun c o e _ _ => a c o e
/-- the state stands, and what has changed since H is the state alone -/
structure Kp (st dL : Addr) (H H' : Hp) : Prop where
  chg : Chg st dL H H'
  n1 : ∃ n, StAt H st dL n
  n2 : ∃ n, StAt H' st dL n
theorem Kp.trans {st dL : Addr} {H H1 H2 : Hp} (a : Kp st dL H H1) (b : Kp st dL H1 H2) : Kp st dL H H2 := ⟨Chg.trans a.chg b.chg, a.n1, b.n2⟩
theorem Kp.tup {st dL : Addr} {H H' : Hp} {a : Addr} {xs : List V} (k : Kp st dL H H') (e : H a = some (.tup xs)) : H' a = some (.tup xs) := by
  obtain ⟨n, ⟨dC, cs, ls, g1, g2, g3, _⟩, _⟩ := k.n1
  exact k.chg a _ e (fun z => by rw [z, g1] at e; cases e) (fun z => by rw [z, g3] at e; cases e)
theorem Kp.sqT {K : PySem.W.Frag} {st dL : Addr} {H H' : Hp} {a : Addr} {xs : List V} (k : Kp st dL H H') (h : SqT K H a xs) : SqT K H' a xs := by
  obtain ⟨n, ⟨dC, cs, ls, g1, g2, g3, _⟩, _⟩ := k.n1
  rcases h with (h | ⟨o, h⟩) | ⟨o, its, n, h1, h2, h3⟩
  · exact .inl (.inl (k.tup h))
  · exact .inl (.inr ⟨o, k.chg a _ h (fun z => by rw [z, g1] at h; cases h) (fun z => by rw [z, g3] at h; cases h)⟩)
  · exact .inr ⟨o, its, n, h1, h2, h3⟩
theorem TyX.kp {K : PySem.W.Frag} {st dL : Addr} {H H' : Hp} {v : V} {t : Value} (k : Kp st dL H H') (h : TyX K H v t) : TyX K H' v t := by
  obtain ⟨n, ⟨dC, cs, ls, g1, g2, g3, _⟩, _⟩ := id k.n1
  obtain ⟨n', ⟨dC', cs', ls', w1, w2, w3, _⟩, _⟩ := id k.n2
  have go : ∀ {a : Addr} {o : HO}, H a = some o → (∀ kvs, o ≠ .dK kvs) → (∀ xs, o ≠ .lst xs) → H' a = some o := fun {a o} e n1 n2 =>
    k.chg a o e (fun z => by rw [z, g1] at e; exact n1 _ (Option.some.inj e).symm) (fun z => by rw [z, g3] at e; exact n2 _ (Option.some.inj e).symm)
  cases h with
  | base b =>
    cases b with
    | non => exact .base .non
    | bl y => exact .base (.bl y)
    | int i => exact .base (.int i)
    | str y => exact .base (.str y)
    | flt y => exact .base (.flt y)
    | @lst a xs ea =>
      by_cases z : a = dL
      · rw [z]
        exact .base (.lst w3)
      · exact .base (.lst (k.chg a _ ea (fun y => by rw [y, g1] at ea; cases ea) z))
    | frz ea => exact .base (.frz (go ea (fun _ z => by cases z) (fun _ z => by cases z)))
    | tup ea => exact .base (.tup (go ea (fun _ z => by cases z) (fun _ z => by cases z)))
    | @dK a kvs ea =>
      by_cases z : a = st
      · rw [z]
        exact .base (.dK w1)
      · exact .base (.dK (k.chg a _ ea z (fun y => by rw [y, g3] at ea; cases ea)))
    | dT ea => exact .base (.dT (go ea (fun _ z => by cases z) (fun _ z => by cases z)))
    | ins ea cl ha hn htk hm => exact .base (.ins (go ea (fun _ z => by cases z) (fun _ z => by cases z)) cl ha hn htk hm)
  | byt b => exact .byt b
  | set ea => exact .set (go ea (fun _ z => by cases z) (fun _ z => by cases z))
  | kList ea c => exact .kList ea c
  | kTuple ea c => exact .kTuple ea c
  | kDict ea c => exact .kDict ea c
  | fTuple ea => exact .fTuple (go ea (fun _ z => by cases z) (fun _ z => by cases z))
  | fDict ea => exact .fDict (go ea (fun _ z => by cases z) (fun _ z => by cases z))
theorem El.kp {K : PySem.W.Frag} {st dL : Addr} {H H' : Hp} {v : V} {o : Option (List Nat)} (k : Kp st dL H H') (h : El K H v o) : El K H' v o := by
  cases h with
  | txt l h asc => exact .txt l h asc
  | odd v t ty no => exact .odd v t (TyX.kp k ty) no
theorem Th.kp {K : PySem.W.Frag} {st dL : Addr} {H H' : Hp} {v : V} {o : Option (List (Option (List Nat)))} (k : Kp st dL H H') (h : Th K H v o) : Th K H' v o := by
  cases h with
  | tup a xs es at_ el few => exact .tup a xs es (k.sqT at_) (L2.Paired.mapP el fun _ _ z => El.kp k z) few
  | oth v t ty no => exact .oth v t (TyX.kp k ty) no
/-- what is new is not the state -/
theorem st_new {st dL : Addr} {H : Hp} {n : Int} (S : StAt H st dL n) {p : Addr} (hp : H p = none) : p ≠ st ∧ p ≠ dL := by
  obtain ⟨⟨dC, cs, ls, g1, g2, g3, _⟩, _⟩ := S
  refine ⟨fun z => ?_, fun z => ?_⟩
  · rw [z, g1] at hp
    cases hp
  · rw [z, g3] at hp
    cases hp
/-- a list or anything else that isn't of the state's is kept -/
theorem Kp.at {st dL : Addr} {H H' : Hp} {a : Addr} {o : HO} (k : Kp st dL H H') (e : H a = some o) (n : a ≠ st ∧ a ≠ dL) : H' a = some o := k.chg a o e n.1 n.2
/-- a list that is no list of the state is written -/
theorem StAt.upd {st dL : Addr} {H : Hp} {n : Int} (S : StAt H st dL n) {p : Addr} {o : HO} (np : p ≠ st ∧ p ≠ dL) (nc : ∀ cs : List Int, 0 < cs.length → H p = some (.lst (cs.map V.int)) → False) : StAt (upd H p o) st dL n := by
  obtain ⟨⟨dC, cs, ls, g1, g2, g3, r⟩, n0⟩ := S
  have nC : p ≠ dC := fun z => nc cs r.2.2.1 (by rw [z]; exact g2)
  exact ⟨⟨dC, cs, ls, by rw [upd_ne np.1.symm]; exact g1, by rw [upd_ne nC.symm]; exact g2, by rw [upd_ne np.2.symm]; exact g3, r⟩, n0⟩
theorem not_ints {ls : List (List Nat)} {cs : List Int} (h : 0 < cs.length) : ls.map ss ≠ cs.map V.int := fun z => by
  cases cs with
  | nil => exact absurd h (Nat.lt_irrefl 0)
  | cons c cs =>
    cases ls with
    | nil => cases z
    | cons l ls =>
      rw [List.map_cons, List.map_cons] at z
      cases (List.cons.inj z).1
theorem Kp.new {st dL : Addr} {H : Hp} {n : Int} (S : StAt H st dL n) {H' : Hp} (e : Ex H H') : Kp st dL H H' := ⟨Chg.of e, ⟨n, S⟩, ⟨n, S.mono e⟩⟩
/-! ### promises of the law's helpers -/
def spOf (K : PySem.W.Frag) : Sp := fun vs H Q _ => vs.length = 2 ∧ ∃ (st dL a : Addr) (n : Int) (xs : List V), vs = [.ref st, .ref a] ∧ StAt H st dL n ∧ n < 900000 ∧ SqL K H a xs ∧ a ≠ st ∧ a ≠ dL ∧ 0 < xs.length ∧ xs.length ≤ 1000 ∧
  ∀ (j : Nat) (v : V) (H' : Hp), xs[j]? = some v → StAt H' st dL (n + 1) → Kp st dL H H' → Q v H'
def isOf (m : Str) (lo hi : Nat) : Option (List Nat) → Bool
  | some l => decide (lo ≤ l.length) && decide (l.length ≤ hi) && l.all (mem m)
  | none => false
def spIsOf (K : PySem.W.Frag) : Sp := spP 4 fun vs H v => ∃ (x : V) (o : Option (List Nat)) (m : Str) (lo hi : Nat), vs = [x, .str m, .int (lo : Nat), .int (hi : Nat)] ∧ El K H x o ∧ v = .bl (isOf m lo hi o)
/-- the draws made by a def are at most B -/
def Drawn (st dL : Addr) (H H' : Hp) (n : Int) (B : Nat) : Prop := ∃ n', n ≤ n' ∧ n' ≤ n + B ∧ StAt H' st dL n' ∧ Kp st dL H H'
def spDWord : Sp := fun vs H Q _ => vs.length = 1 ∧ ∃ (st dL : Addr) (n : Int), vs = [.ref st] ∧ StAt H st dL n ∧ n < 900000 ∧ ∀ (l : List Nat) (H' : Hp), wordOk l = true → Drawn st dL H H' n 90 → Q (ss l) H'
def spDLine (K : PySem.W.Frag) : Sp := fun vs H Q _ => vs.length = 1 ∧ ∃ (st dL : Addr) (n : Int), vs = [.ref st] ∧ StAt H st dL n ∧ n < 800000 ∧ ∀ (a : Addr) (ls : List (List Nat)) (H' : Hp), (∀ l ∈ ls, wordOk l = true) → ls.length ≤ 80 → SqT K H' a (ls.map ss) → Drawn st dL H H' n 700 → Q (.ref a) H'
/-- an odd thing, as an item and as a line -/
def spOdd (K : PySem.W.Frag) : Sp := fun vs H Q _ => vs.length = 1 ∧ ∃ (st dL : Addr) (n : Int), vs = [.ref st] ∧ StAt H st dL n ∧ n < 900000 ∧ ∀ (v : V) (o : Option (List Nat)) (t : Option (List (Option (List Nat)))) (H' : Hp), El K H' v o → Th K H' v t → Drawn st dL H H' n 1 → Q v H'
def spTrue2 (K : PySem.W.Frag) : Sp := fun vs H Q _ => vs.length = 1 ∧ ∃ (st dL : Addr) (n : Int), vs = [.ref st] ∧ StAt H st dL n ∧ n < 800000 ∧ ∀ (H' : Hp), Drawn st dL H H' n 200 → Q (.bl true) H'
end KN

set_option Elab.async false
set_option maxRecDepth 100000
set_option maxHeartbeats 4000000
/-! Things as items and as lines. -/
namespace KN
open PySem PySem.Spec PyProof.Rows L2 SX Evl KL KX
/-- a thing that may be asked as an item and as a line -/
def ET (K : PySem.W.Frag) (H : Hp) (v : V) : Prop := ∃ (o : Option (List Nat)) (t : Option (List (Option (List Nat)))), El K H v o ∧ Th K H v t
section
variable {K : PySem.W.Frag} {H H' : Hp}
theorem ET.ext {v : V} (e : Ex H H') : ET K H v → ET K H' v := fun ⟨o, t, h1, h2⟩ => ⟨o, t, h1.ext e, h2.ext e⟩
theorem ET.kp {st dL : Addr} {v : V} (k : Kp st dL H H') : ET K H v → ET K H' v := fun ⟨o, t, h1, h2⟩ => ⟨o, t, h1.kp k, h2.kp k⟩
theorem et_non : ET K H .non := ⟨none, none, .odd _ _ (.base .non) (kit_ty (by decide +kernel)), .oth _ _ (.base .non) (kit_ty (by decide +kernel))⟩
theorem et_int (i : Int) : ET K H (.int i) := ⟨none, none, .odd _ _ (.base (.int i)) (kit_ty (by decide +kernel)), .oth _ _ (.base (.int i)) (kit_ty (by decide +kernel))⟩
theorem et_bl (b : Bool) : ET K H (.bl b) := ⟨none, none, .odd _ _ (.base (.bl b)) (kit_ty (by decide +kernel)), .oth _ _ (.base (.bl b)) (kit_ty (by decide +kernel))⟩
theorem el_ss {l : List Nat} (h : l.length ≤ 1000) (asc : ∀ c ∈ l, c < 1114112) : El K H (ss l) (some l) := .txt l h asc
theorem th_ss (l : List Nat) : Th K H (ss l) none := .oth _ _ (.base (.str _)) (kit_ty (by decide +kernel))
theorem et_ss {l : List Nat} (h : l.length ≤ 1000) (asc : ∀ c ∈ l, c < 1114112) : ET K H (ss l) := ⟨some l, none, el_ss h asc, th_ss l⟩
theorem et_rep {H : Hp} (k c : Nat) (hk : k ≤ 1000) (hc : c < 1114112) : ET K H (ss (List.replicate k c)) := et_ss (by rw [List.length_replicate]; exact hk) fun x hx => by
  rw [(List.mem_replicate.mp hx).2]
  exact hc
theorem et_str (x : Str) (h : (decide (x.cps.toList.length ≤ 1000) && x.cps.toList.all fun c => decide (c < 1114112)) = true) : ET K H (.str x) := by
  rw [Bool.and_eq_true, decide_eq_true_eq, List.all_eq_true] at h
  have z := et_ss (K := K) (H := H) (l := x.cps.toList) h.1 fun c hc => of_decide_eq_true (h.2 c hc)
  have e : ss x.cps.toList = V.str x := congrArg V.str (S_tl x)
  rwa [e] at z
theorem et_lst {a : Addr} {xs : List V} (h : H a = some (.lst xs)) : ET K H (.ref a) := ⟨none, none, .odd _ _ (.base (.lst h)) (kit_ty (by decide +kernel)), .oth _ _ (.base (.lst h)) (kit_ty (by decide +kernel))⟩
theorem et_dK {a : Addr} {xs : List (Key × V)} (h : H a = some (.dK xs)) : ET K H (.ref a) := ⟨none, none, .odd _ _ (.base (.dK h)) (kit_ty (by decide +kernel)), .oth _ _ (.base (.dK h)) (kit_ty (by decide +kernel))⟩
theorem paired_of : ∀ {xs : List V}, (∀ v ∈ xs, ET K H v) → ∃ es, Paired (El K H) xs es
  | [], _ => ⟨[], .nil⟩
  | x :: xs, h => by
    obtain ⟨o, _, h1, _⟩ := h x List.mem_cons_self
    obtain ⟨es, h2⟩ := paired_of (xs := xs) fun v hv => h v (List.mem_cons_of_mem _ hv)
    exact ⟨o :: es, .cons h1 h2⟩
theorem et_tup {a : Addr} {xs : List V} (h : SqT K H a xs) (few : xs.length ≤ 1000) (all : ∀ v ∈ xs, ET K H v) : ET K H (.ref a) := by
  obtain ⟨es, p⟩ := paired_of all
  exact ⟨none, some es, .odd _ _ (ty_tup h) (kit_ty (by decide +kernel)), .tup a xs es h p few⟩
theorem fa_nil {p : V → Prop} : ∀ v ∈ ([] : List V), p v := fun _ h => nomatch h
theorem fa_cons {p : V → Prop} {x : V} {l : List V} (h : p x) (r : ∀ v ∈ l, p v) : ∀ v ∈ x :: l, p v := fun v hv => by
  rcases List.mem_cons.mp hv with e | e
  · rw [e]
    exact h
  · exact r v e
theorem fa_app {p : V → Prop} {l m : List V} (h : ∀ v ∈ l, p v) (r : ∀ v ∈ m, p v) : ∀ v ∈ l ++ m, p v := fun v hv => (List.mem_append.mp hv).elim (h v) (r v)
end
theorem word_len {l : List Nat} (h : wordOk l = true) : l.length ≤ 80 := by
  unfold wordOk at h
  rw [Bool.and_eq_true] at h
  exact of_decide_eq_true h.1
theorem sg_small : ∀ c ∈ sgWord.cps.toList, c < 128 := by decide +kernel
theorem word_asc {l : List Nat} (h : wordOk l = true) : ∀ c ∈ l, c < 128 := by
  unfold wordOk at h
  rw [Bool.and_eq_true, List.all_eq_true] at h
  exact fun c hc => sg_small c (of_decide_eq_true (h.2 c hc))
theorem et_word {K : PySem.W.Frag} {H : Hp} {l : List Nat} (h : wordOk l = true) : ET K H (ss l) := et_ss (by have := word_len h; omega) fun c hc => by have := word_asc h c hc; omega
theorem cut_mem {xs : List V} {lo hi : Option Int} : ∀ v ∈ cutV xs lo hi, v ∈ xs := fun v hv => List.mem_of_mem_drop (List.mem_of_mem_take hv)
theorem cut_len {xs : List V} {m : Nat} : (cutV xs none (some (m : Int))).length ≤ m := by
  unfold cutV
  rw [List.length_take]
  refine Nat.le_trans (Nat.min_le_left _ _) (Nat.le_trans (Nat.sub_le _ _) ?_)
  simp only [HT.sIx]
  split <;> omega
theorem rep_mem {xs : List V} {k : Nat} {v : V} (h : v ∈ (List.replicate k xs).flatten) : v ∈ xs := by
  obtain ⟨l, hl, hv⟩ := List.mem_flatten.mp h
  rw [(List.mem_replicate.mp hl).2] at hv
  exact hv
end KN

set_option Elab.async false
set_option maxRecDepth 100000
set_option maxHeartbeats 4000000
/-! What a call says: its value in a list, or the error's word and place. -/
namespace KN
open PySem PySem.Spec PyProof.Rows L2 SX Evl KL KX LamX
theorem pe_weak {X : Cx} {e : Expr} {t : TE} (h : PE X e t) : PE X e (fun σ H Q => ∃ QQ : VK, (∀ v H', QQ v H' → Q v H') ∧ t σ H QQ) :=
  ⟨fun pins s σ H Q I got => by
    obtain ⟨QQ, m, ht⟩ := got
    refine wpAny_mono (h.run pins s σ H QQ I ht) (fun u s' q => ?_) fun _ _ z => z
    obtain ⟨v, H', I', r, z⟩ := q
    exact ⟨v, H', I', r, m v H' z⟩⟩
/-- the classes: BadGrammar, BadLine, BadForm, BadText, BadMeaning, BadQuestion; the error's class D has this word -/
structure SaidC (K : PySem.W.Frag) (CK CG CL CF CT CM CQ D : Addr) (word : Str) : Prop where
  e : ExcC K D
  x : XfC K D
  own : PySem.W.findIn K (.ref D) "place" = some none
  m : PySem.W.exmOne K (.ref D) (.ref CK) = some true
  b : ∃ g l f t : Bool, PySem.W.kitOne K (.ref D) (.ref CG) = some g ∧ PySem.W.kitOne K (.ref D) (.ref CL) = some l ∧ PySem.W.kitOne K (.ref D) (.ref CF) = some f ∧ PySem.W.kitOne K (.ref D) (.ref CT) = some t ∧
    (([("grammar", g), ("line", l), ("form", f), ("text", t)] : List (Str × Bool)).filter fun y => y.2).map (fun y => V.str y.1) = [V.str word]
  n : PySem.W.kitAny K (.ref D) [.ref CM, .ref CQ] = some false
  y : PySem.W.kitAny K (.ref D) [.ref CF, .ref CG, .ref CL, .ref CT] = some true
/-- the try's body -/
def tbSaid (f c' : Addr) (q : Str) (tl : XK → Hp → VK → Prop) : WX → TS := fun W D σ H => ∃ Ech : XK, (∀ cls d σ' H', Ech cls d H' → W cls d σ' H') ∧ σ[0]? = some (some (.ref f)) ∧ H c' = some (CodeO c' q) ∧ ∃ L, σ[1]? = some (some (.ref L)) ∧ H L = some (.lst []) ∧
  ∃ QQ : VK, (∀ v H', QQ v H' → H' L = some (.lst []) ∧ D.nx σ (upd H' L (.lst [v]))) ∧ tl Ech H QQ
theorem ps_saidBody {X : Cx} {f c' : Addr} {q : Str} {tl : XK → Hp → VK → Prop} {W : WX} {E : XK} {p1 p2 p3 p4 p5 p6 : Pos}
    (hl : (p4.endLine == p5.line) = true) (nf : X.N[1]? = some ("found" : Str)) (vf : Vis X.env.scope "found")
    (act : ∀ E : XK, (∀ cls d σ' H', E cls d H' → W cls d σ' H') → PE X (.Call (.Name "call" p1) [] [] p2) (fun σZ HZ Q => σZ[0]? = some (some (.ref f)) ∧ HZ c' = some (CodeO c' q) ∧ tl E HZ Q)) :
    PSs X [.Expr (.Call (.Attribute (.Name "found" p3) "append" p4) [.Call (.Name "call" p1) [] [] p2] [] p5) p6] (tbSaid f c' q tl W) := by
  refine ⟨fun pins s σ H D I h => ?_⟩
  obtain ⟨Ech, hW, h1, h2, L, h3, h4, QQ, mono, h5⟩ := h
  have d := pss_one (X := X) (ps_expr (pos := p6) (pe_bm (cpos := p5) (apos := p4) PySem.F.plainAttrs_list PySem.F.slot_list_append PySem.F.type_list_append mt_append (pe_var (pos := p3) (i := 1) nf vf (by decide) (by decide)) (pa_cons (pe_weak (act Ech hW)) pa_nil) (hline := hl)))
  refine d.run pins s σ H D I ?_
  refine ⟨_, h3, .inl ⟨rfl, _, sq_of h4⟩, QQ, fun v H' hq => ?_, h1, h2, h5⟩
  obtain ⟨hL, q⟩ := mono v H' hq
  exact ⟨L, [], v, rfl, rfl, hL, by show 0 < sizeLine; have := sz10000; omega, q⟩
def TSaid (K : PySem.W.Frag) (CK CG CL CF CT CM CQ : Addr) : (XK → Hp → VK → Prop) → Hp → VK → Prop := fun tl H Q => ∀ L, H L = none →
  tl (fun cls d H' => ∃ (D dd tp : Addr) (word : Str), cls = .ref D ∧ d = some dd ∧ SaidC K CK CG CL CF CT CM CQ D word ∧ H' dd = some (.xd [("place", .ref tp)]) ∧ ∀ H2 t, Ex H' H2 → H2 t = some (.tup [.str word, .ref tp]) → Q (.ref t) H2) (upd H L (.lst []))
    fun v H' => H' L = some (.lst []) ∧ Q (.ref L) (upd H' L (.lst [v]))
end KN

set_option Elab.async false
set_option maxRecDepth 100000
set_option maxHeartbeats 4000000
/-! Data across the making of lambdas; what their repr asks. -/
namespace KN
open PySem PySem.Spec PyProof.Rows L2 SX Evl KL KX LamX
section
variable {K : PySem.W.Frag} {H H' : Hp}
theorem rd_n {a : Addr} {o : HO} (e : ExtN H H') (no : ∀ ps, o ≠ .tbl ps) (h : Rd H a o) : Rd H' a o := by
  rcases h with h | ⟨ob, h⟩
  · exact .inl (e _ _ h no)
  · exact .inr ⟨ob, e _ _ h fun ps z => by cases z⟩
theorem sqT_n {a : Addr} {xs : List V} (e : ExtN H H') (h : SqT K H a xs) : SqT K H' a xs := h.imp (rd_n e fun _ z => by cases z) id
theorem sqL_n {a : Addr} {xs : List V} (e : ExtN H H') (h : SqL K H a xs) : SqL K H' a xs := h.imp (rd_n e fun _ z => by cases z) id
mutual
theorem dp_n (e : ExtN H H') : ∀ (d : PyData) (v : V), Dp K H v d → Dp K H' v d
  | .none, _, h => by
    cases h
    exact .non
  | .bool _, _, h => by
    cases h
    exact .bl _
  | .int _, _, h => by
    cases h
    exact .int _
  | .str _, _, h => by
    cases h
    exact .str _
  | .list ds, _, h => by
    cases h with
    | lst h1 h2 => exact .lst (sqL_n e h1) (dpAll_n e ds _ h2)
  | .tuple ds, _, h => by
    cases h with
    | tup h1 h2 => exact .tup (sqT_n e h1) (dpAll_n e ds _ h2)
  | .dict _, _, h => by cases h
theorem dpAll_n (e : ExtN H H') : ∀ (ds : List PyData) (vs : List V), DpAll K H vs ds → DpAll K H' vs ds
  | [], _, h => by
    cases h
    exact .nil
  | d :: ds, _, h => by
    cases h with
    | cons h1 h2 => exact .cons (dp_n e d _ h1) (dpAll_n e ds _ h2)
end
theorem tyX_n {v : V} {t : Value} (e : ExtN H H') (h : TyX K H v t) : TyX K H' v t := by
  cases h with
  | base b =>
    cases b with
    | non => exact .base .non
    | bl y => exact .base (.bl y)
    | int i => exact .base (.int i)
    | str y => exact .base (.str y)
    | flt y => exact .base (.flt y)
    | lst ea => exact .base (.lst (e _ _ ea fun _ z => by cases z))
    | frz ea => exact .base (.frz (e _ _ ea fun _ z => by cases z))
    | tup ea => exact .base (.tup (e _ _ ea fun _ z => by cases z))
    | dK ea => exact .base (.dK (e _ _ ea fun _ z => by cases z))
    | dT ea => exact .base (.dT (e _ _ ea fun _ z => by cases z))
    | ins ea cl ha hn htk hm => exact .base (.ins (e _ _ ea fun _ z => by cases z) cl ha hn htk hm)
  | byt b => exact .byt b
  | set ea => exact .set (e _ _ ea fun _ z => by cases z)
  | kList ea c => exact .kList ea c
  | kTuple ea c => exact .kTuple ea c
  | kDict ea c => exact .kDict ea c
  | fTuple ea => exact .fTuple (e _ _ ea fun _ z => by cases z)
  | fDict ea => exact .fDict (e _ _ ea fun _ z => by cases z)
theorem el_n {v : V} {o : Option (List Nat)} (e : ExtN H H') (h : El K H v o) : El K H' v o := by
  cases h with
  | txt l h asc => exact .txt l h asc
  | odd v t ty no => exact .odd v t (tyX_n e ty) no
theorem th_n {v : V} {o : Option (List (Option (List Nat)))} (e : ExtN H H') (h : Th K H v o) : Th K H' v o := by
  cases h with
  | tup a xs es at_ el few => exact .tup a xs es (sqT_n e at_) (L2.Paired.mapP el fun _ _ z => el_n e z) few
  | oth v t ty no => exact .oth v t (tyX_n e ty) no
end
/-! ### what is shown -/
def wordsD (es : List (Option (List Nat))) : List PyData := es.map fun e => .str (S (e.getD []))
def placeD : Option Nat → List PyData
  | none => []
  | some n => [.int (n : Nat)]
def refD (pl : Option Nat) : PyData := .tuple [.str "line", .tuple (placeD pl)]
def dueD (r : Option (Option Nat)) (es : List (Option (List Nat))) : PyData := match r with
  | none => .list [.tuple (wordsD es)]
  | some pl => refD pl
def sizeD (r : Option (Option Nat)) (es : List (Option (List Nat))) : PyData := match r with
  | none => .list [.int (sizeE es : Nat)]
  | some pl => refD pl
structure GoodD (d : PyData) : Prop where
  s : d.showable = true
  dep : d.depth ≤ 10
  n : d.hasDict = false
  l : d.shown.length ≤ 100000
theorem list_text (ts : List Str) : (listText ts).length ≤ piled ts + 2 := by
  have e1 : ((("[" : String) : Str)).length = 1 := rfl
  have e2 : ((("]" : String) : Str)).length = 1 := rfl
  rw [listText_eq_join, strLen_append, strLen_append, e1, e2]
  by_cases h : ts = []
  · subst h
    decide +kernel
  · have := join_length_add ts h
    omega
theorem good_pair {d : PyData} (g : GoodD d) : (PyData.list [d, d]).showable = true ∧ (PyData.list [d, d]).depth ≤ 60 ∧ (PyData.list [d, d]).hasDict = false ∧ (PyData.list [d, d]).shown.length ≤ sizeLine := by
  obtain ⟨h1, h2, h3, h4⟩ := g
  refine ⟨?_, ?_, ?_, ?_⟩
  · simp [PyData.showable, PyData.showableAll, h1]
  · simp [PyData.depth, PyData.depthAll]
    omega
  · simp [PyData.hasDict, PyData.hasDictAll, h3]
  · have e : (PyData.list [d, d]).shown = listText [d.shown, d.shown] := by simp [PyData.shown, PyData.shownAll]
    rw [e]
    have z := list_text [d.shown, d.shown]
    rw [piled_cons, piled_cons, piled_nil] at z
    have q : 300000 ≤ sizeLine := by
      rw [sizeLine_eq]
      omega
    omega
theorem good_one {d : PyData} (g : GoodD d) : d.showable = true ∧ d.depth ≤ 60 ∧ d.hasDict = false ∧ d.shown.length ≤ sizeLine := by
  obtain ⟨h1, h2, h3, h4⟩ := g
  refine ⟨h1, by omega, h3, Nat.le_trans h4 ?_⟩
  rw [sizeLine_eq]
  omega
theorem good_ref {pl : Option Nat} (h : ∀ n, pl = some n → n ≤ 100) : GoodD (refD pl) := by
  have e : (refD pl).shown = tupleText [reprText "line", tupleText (PyData.shownAll (placeD pl))] := by simp [refD, PyData.shown, PyData.shownAll]
  have z1 := fmt_text [reprText "line", tupleText (PyData.shownAll (placeD pl))]
  have z2 := fmt_text (PyData.shownAll (placeD pl))
  have e1 : (reprText "line").length = 6 := by decide +kernel
  rw [piled_cons, piled_cons, piled_nil, e1] at z1
  have z3 : piled (PyData.shownAll (placeD pl)) ≤ 100 := by
    cases pl with
    | none =>
      show piled [] ≤ 100
      rw [piled_nil]
      omega
    | some n =>
      have hn := h n rfl
      have q := (num_small ⟨n, by omega⟩).1
      show piled [_] ≤ 100
      rw [piled_cons, piled_nil]
      have q' : ((toString ((n : Nat) : Int) : String) : Str).length ≤ 10 := q
      have e : PyData.shown (.int (n : Nat)) = ((toString ((n : Nat) : Int) : String) : Str) := by simp [PyData.shown]
      rw [e]
      omega
  refine ⟨?_, ?_, ?_, by rw [e]; omega⟩
  · cases pl with
    | none => decide +kernel
    | some n =>
      have hn := h n rfl
      have q := (num_small ⟨n, by omega⟩).2
      simp [refD, placeD, PyData.showable, PyData.showableAll]
      exact q
  · cases pl with
    | none => decide +kernel
    | some n => simp [refD, placeD, PyData.depth, PyData.depthAll]
  · cases pl with
    | none => decide +kernel
    | some n => simp [refD, placeD, PyData.hasDict, PyData.hasDictAll]
theorem shown_words : ∀ es : List (Option (List Nat)), (∀ e ∈ es, wordE e = true) → piled (PyData.shownAll (wordsD es)) ≤ 810 * es.length
  | [], _ => by
    show piled [] ≤ _
    rw [piled_nil]
    omega
  | e :: es, h => by
    have ih := shown_words es fun x hx => h x (List.mem_cons_of_mem _ hx)
    have he := h e List.mem_cons_self
    cases e with
    | none => cases he
    | some l =>
      have l80 := word_len (l := l) he
      have q := StrLaws.reprText_len (S l) fun c hc => by
        have := word_asc (l := l) he c (by simpa [S] using hc)
        omega
      have ql : (S l).length = l.length := S_len l
      have e : PyData.shownAll (wordsD (some l :: es)) = reprText (S l) :: PyData.shownAll (wordsD es) := by simp [wordsD, PyData.shownAll, PyData.shown]
      rw [e, piled_cons, List.length_cons]
      omega
theorem words_data : ∀ es : List (Option (List Nat)), PyData.showableAll (wordsD es) = true ∧ PyData.hasDictAll (wordsD es) = false ∧ PyData.depthAll (wordsD es) = 0
  | [] => by simp [wordsD, PyData.showableAll, PyData.hasDictAll, PyData.depthAll]
  | e :: es => by
    obtain ⟨h1, h2, h3⟩ := words_data es
    unfold wordsD at h1 h2 h3
    simp [wordsD, PyData.showableAll, PyData.hasDictAll, PyData.depthAll, PyData.showable, PyData.hasDict, PyData.depth, h1, h2, h3]
theorem good_words {es : List (Option (List Nat))} (h : ∀ e ∈ es, wordE e = true) (l : es.length ≤ 80) : GoodD (.list [.tuple (wordsD es)]) := by
  obtain ⟨h1, h2, h3⟩ := words_data es
  have q := shown_words es h
  have e : (PyData.list [.tuple (wordsD es)]).shown = listText [tupleText (PyData.shownAll (wordsD es))] := by simp [PyData.shown, PyData.shownAll]
  have z1 := list_text [tupleText (PyData.shownAll (wordsD es))]
  have z2 := fmt_text (PyData.shownAll (wordsD es))
  rw [piled_cons, piled_nil] at z1
  refine ⟨?_, ?_, ?_, by rw [e]; omega⟩
  · simp [PyData.showable, PyData.showableAll, h1]
  · simp [PyData.depth, PyData.depthAll, h3]
  · simp [PyData.hasDict, PyData.hasDictAll, h2]
end KN

set_option Elab.async false
set_option maxRecDepth 100000
set_option maxHeartbeats 4000000
/-! What is said of a line: the readings of the law's lambdas. -/
namespace KN
open PySem PySem.Spec PyProof.Rows L2 SX Evl KL KX LamX
def bads (es : List (Option (List Nat))) : List Nat := (List.range es.length).filter fun i => !wordE (es.getD i none)
theorem bads_head (es : List (Option (List Nat))) : (bads es).head? = badAt es := by
  unfold bads badAt
  rw [List.head?_filter]
  cases h : es.findIdx? fun e => !wordE e with
  | none =>
    rw [List.find?_eq_none]
    rw [List.findIdx?_eq_none_iff] at h
    intro i hi
    have hl : i < es.length := List.mem_range.mp hi
    have z := h es[i] (List.getElem_mem hl)
    have e : es.getD i none = es[i] := by simp [List.getD, hl]
    rw [e, z]
    exact Bool.false_ne_true
  | some i =>
    rw [List.findIdx?_eq_some_iff_getElem] at h
    obtain ⟨hl, h1, h2⟩ := h
    rw [List.find?_range_eq_some]
    refine ⟨?_, List.mem_range.mpr hl, fun j hj => ?_⟩
    · have e : es.getD i none = es[i] := by simp [List.getD, hl]
      rw [e]
      exact h1
    · have hjl : j < es.length := Nat.lt_trans hj hl
      have e : es.getD j none = es[j] := by simp [List.getD, hjl]
      rw [e]
      have z := h2 j hj
      simpa using z
theorem badAt_lt {es : List (Option (List Nat))} {n : Nat} (h : badAt es = some n) : n < es.length := by
  unfold badAt at h
  rw [List.findIdx?_eq_some_iff_getElem] at h
  exact h.1
theorem need_small {o : Option (List (Option (List Nat)))} {pl : Option Nat} (h : needF o = some pl) : ∀ n, pl = some n → n ≤ 100 := by
  rintro n rfl
  cases o with
  | none => cases h
  | some es =>
    have h : (if 80 < es.length then some none else (badAt es).map some) = some (some n) := h
    by_cases h80 : 80 < es.length
    · rw [if_pos h80] at h
      cases h
    · rw [if_neg h80] at h
      cases hb : badAt es with
      | none =>
        rw [hb] at h
        cases h
      | some m =>
        rw [hb] at h
        cases h
        have := badAt_lt hb
        omega
theorem need_ok {o : Option (List (Option (List Nat)))} (h : needF o = none) : ∃ es, o = some es ∧ es.length ≤ 80 ∧ ∀ e ∈ es, wordE e = true := by
  cases o with
  | none => cases h
  | some es =>
    have h : (if 80 < es.length then some none else (badAt es).map some) = none := h
    by_cases h80 : 80 < es.length
    · rw [if_pos h80] at h
      cases h
    · rw [if_neg h80] at h
      refine ⟨es, rfl, by omega, ?_⟩
      cases hb : badAt es with
      | some m =>
        rw [hb] at h
        cases h
      | none =>
        unfold badAt at hb
        rw [List.findIdx?_eq_none_iff] at hb
        intro e he
        simpa using hb e he
theorem good_due (o : Option (List (Option (List Nat)))) : GoodD (dueD (needF o) (o.getD [])) := by
  cases h : needF o with
  | none =>
    obtain ⟨es, rfl, h1, h2⟩ := need_ok h
    exact good_words h2 h1
  | some pl => exact good_ref (need_small h)
theorem good_size (o : Option (List (Option (List Nat)))) : GoodD (sizeD (needF o) (o.getD [])) := by
  cases h : needF o with
  | some pl => exact good_ref (need_small h)
  | none =>
    obtain ⟨es, rfl, h1, h2⟩ := need_ok h
    have le : sizeE es ≤ 10000 := by
      unfold sizeE
      have z : ∀ l : List (Option (List Nat)), (∀ e ∈ l, wordE e = true) → (l.map fun e => (e.getD []).length).sum ≤ 80 * l.length := by
        intro l
        induction l with
        | nil => intro _; simp
        | cons e l ih =>
          intro hl
          have q := ih fun x hx => hl x (List.mem_cons_of_mem _ hx)
          have he := hl e List.mem_cons_self
          rw [List.map_cons, List.sum_cons, List.length_cons]
          cases e with
          | none => cases he
          | some w =>
            have := word_len (l := w) he
            show w.length + _ ≤ _
            omega
      have := z es h2
      omega
    have big : (((sizeE es : Nat) : Int)).natAbs.log2 < 1920 := by
      rw [Int.natAbs_natCast]
      by_cases h0 : sizeE es = 0
      · rw [h0]
        decide
      · rw [Nat.log2_lt h0]
        exact Nat.lt_of_le_of_lt le (by decide +kernel)
    have sh : ((toString ((sizeE es : Nat) : Int) : String) : Str).length ≤ 60000 := by
      have z := int_text_length_le10 (a := ((sizeE es : Nat) : Int)) (k := 10) (by decide) (by rw [Int.natAbs_natCast]; exact Nat.lt_of_le_of_lt le (by decide))
      rw [PySem.ofString_length]
      omega
    refine ⟨?_, ?_, ?_, ?_⟩
    · show (PyData.list [.int (sizeE es : Nat)]).showable = true
      simp only [PyData.showable, PyData.showableAll, Bool.and_true, decide_eq_true_eq]
      exact big
    · show (PyData.list [.int (sizeE es : Nat)]).depth ≤ 10
      simp [PyData.depth, PyData.depthAll]
    · show (PyData.list [.int (sizeE es : Nat)]).hasDict = false
      simp [PyData.hasDict, PyData.hasDictAll]
    · show (PyData.list [.int (sizeE es : Nat)]).shown.length ≤ 100000
      have e : (PyData.list [.int (sizeE es : Nat)]).shown = listText [((toString ((sizeE es : Nat) : Int) : String) : Str)] := by simp [PyData.shown, PyData.shownAll]
      rw [e]
      have z := list_text [((toString ((sizeE es : Nat) : Int) : String) : Str)]
      rw [piled_cons, piled_nil] at z
      omega
section
variable {K : PySem.W.Frag} {H : Hp}
theorem dp_words : ∀ {xs : List V} {es : List (Option (List Nat))}, Paired (El K H) xs es → (∀ e ∈ es, wordE e = true) → DpAll K H xs (wordsD es)
  | [], _, .nil, _ => .nil
  | _ :: _, _ :: _, .cons h r, w => by
    have we := w _ List.mem_cons_self
    cases h with
    | odd => cases we
    | txt l hl asc => exact .cons (.str _) (dp_words r fun e he => w e (List.mem_cons_of_mem _ he))
theorem th_dp {v : V} {o : Option (List (Option (List Nat)))} (t : Th K H v o) (h : needF o = none) : Dp K H v (.tuple (wordsD (o.getD []))) := by
  obtain ⟨es, rfl, h1, h2⟩ := need_ok h
  cases t with
  | tup a xs es at_ el few => exact .tup at_ (dp_words el h2)
theorem dp_place : ∀ pl : Option Nat, DpAll K H (placeV pl) (placeD pl)
  | none => .nil
  | some n => .cons (.int _) .nil
theorem ExtN.ofEx {H H' : Hp} (e : Ex H H') : ExtN H H' := fun b o h _ => e b o h
section
variable {CK CG CL CF CT CM CQ : Addr} {Ts : List (Addr × Str)} {σ : L2.St} {Q : VK} {v : V} {o : Option (List (Option (List Nat)))}
theorem said_need (SC : SaidC K CK CG CL CF CT CM CQ CL "line") (h0 : σ[0]? = some (some v)) (th : Th K H v o) (tabs : Tabs Ts H)
    (k : ∀ r H', ExtN H H' → Tabs Ts H' → Dp K H' r (dueD (needF o) (o.getD [])) → Q r H') :
    tLam Ts (TSaid K CK CG CL CF CT CM CQ) (fun E => tCallS (spNeed K CL) (WE fun cls d _ H => E cls d H) (tCons (tVar 0) tNil)) σ H Q := by
  refine ⟨tabs, fun H1 eN T1 L hL => ?_⟩
  have e1 : Ex H1 (upd H1 L (.lst [])) := Ex.new hL
  refine ⟨v, h0, rfl, v, o, rfl, KN.Th.ext e1 (th_n eN th), fun ok H2 e2 => ?_, fun pl epl H2 dd tp e2 h1 h2 => ?_⟩
  · have e3 : Ex H1 (upd H2 L (.lst [v])) := Ex.mut (e1.trans e2) hL
    have eF : ExtN H (upd H2 L (.lst [v])) := ExtN.trans eN (ExtN.ofEx e3)
    refine ⟨e2 L _ upd_same, k _ _ eF (T1.ext e3) ?_⟩
    rw [ok]
    exact .lst (sq_of upd_same) (.cons (th_dp (th_n eF th) ok) .nil)
  · refine ⟨CL, dd, tp, "line", rfl, rfl, SC, h1, fun H3 t e3 h3 => ?_⟩
    have e4 : Ex H1 H3 := (e1.trans e2).trans e3
    refine k _ _ (ExtN.trans eN (ExtN.ofEx e4)) (T1.ext e4) ?_
    rw [epl]
    exact .tup (st_of h3) (.cons (.str _) (.cons (.tup (ex_t e3 h2) (dp_place pl)) .nil))
theorem said_size (SC : SaidC K CK CG CL CF CT CM CQ CL "line") (h0 : σ[0]? = some (some v)) (th : Th K H v o) (tabs : Tabs Ts H)
    (k : ∀ r H', ExtN H H' → Tabs Ts H' → Dp K H' r (sizeD (needF o) (o.getD [])) → Q r H') :
    tLam Ts (TSaid K CK CG CL CF CT CM CQ) (fun E => tCallS (spSize K CL) (WE fun cls d _ H => E cls d H) (tCons (tVar 0) tNil)) σ H Q := by
  refine ⟨tabs, fun H1 eN T1 L hL => ?_⟩
  have e1 : Ex H1 (upd H1 L (.lst [])) := Ex.new hL
  refine ⟨v, h0, rfl, v, o, rfl, KN.Th.ext e1 (th_n eN th), fun ok H2 e2 => ?_, fun pl epl H2 dd tp e2 h1 h2 => ?_⟩
  · have e3 : Ex H1 (upd H2 L (.lst [.int (sizeE (o.getD []) : Nat)])) := Ex.mut (e1.trans e2) hL
    have eF : ExtN H (upd H2 L (.lst [.int (sizeE (o.getD []) : Nat)])) := ExtN.trans eN (ExtN.ofEx e3)
    refine ⟨e2 L _ upd_same, k _ _ eF (T1.ext e3) ?_⟩
    rw [ok]
    exact .lst (sq_of upd_same) (.cons (.int _) .nil)
  · refine ⟨CL, dd, tp, "line", rfl, rfl, SC, h1, fun H3 t e3 h3 => ?_⟩
    have e4 : Ex H1 H3 := (e1.trans e2).trans e3
    refine k _ _ (ExtN.trans eN (ExtN.ofEx e4)) (T1.ext e4) ?_
    rw [epl]
    exact .tup (st_of h3) (.cons (.str _) (.cons (.tup (ex_t e3 h2) (dp_place pl)) .nil))
end
/-- what the law holds due, and of what kind it is -/
structure DueAt (K : PySem.W.Frag) (H : Hp) (v : V) (r : Option (Option Nat)) (d : PyData) : Prop where
  d : Dp K H v d
  k : (r = none ∧ ∃ a xs, v = .ref a ∧ H a = some (.lst xs)) ∨ ∃ pl a xs, r = some pl ∧ v = .ref a ∧ H a = some (.tup xs)
theorem DueAt.n {H' : Hp} {v : V} {r : Option (Option Nat)} {d : PyData} (e : ExtN H H') (h : DueAt K H v r d) : DueAt K H' v r d := by
  refine ⟨dp_n e _ _ h.d, ?_⟩
  rcases h.k with ⟨hr, a, xs, hv, ha⟩ | ⟨pl, a, xs, hr, hv, ha⟩
  · exact .inl ⟨hr, a, xs, hv, e _ _ ha fun _ z => by cases z⟩
  · exact .inr ⟨pl, a, xs, hr, hv, e _ _ ha fun _ z => by cases z⟩
end
/-- only the tables of code objects have changed of what was there -/
def spLineR (K : PySem.W.Frag) (Ts : List (Addr × Str)) : Sp := fun vs H Q _ => vs.length = 1 ∧ ∃ (v : V) (o : Option (List (Option (List Nat)))), vs = [v] ∧ Th K H v o ∧ Tabs Ts H ∧ ∀ H', ExtN H H' → Tabs Ts H' → Q (.bl true) H'
end KN

set_option Elab.async false
set_option maxRecDepth 100000
set_option maxHeartbeats 4000000
/-! The law's own call where the defs make lambdas: their tables are empty at first. -/
namespace KN
open PySem PySem.Spec PyProof.Rows L2 SX Evl KL KX LamX
section
variable {P : Program} {w : World} {K : PySem.W.Frag} {mg mb : Str → Option Value} {k : Nat} {sp : Sp} {fa a : Addr} {s1 : Shared} {vs : List Value} {ns : List Int} {cs : List (Addr × Addr)}
theorem begins (a : Addr) (tt : List Addr) (o : HO) (own : Bool) : ∃ H : Hp, (∀ b ∈ tt, H b = some (.tbl #[])) ∧ (own = true → a ∉ tt → H a = some o) ∧ ∀ b u, H b = some u → (b ∈ tt ∧ u = .tbl #[]) ∨ (b = a ∧ own = true ∧ u = o) := by
  refine ⟨fun b => if b ∈ tt then some (.tbl #[]) else if b = a ∧ own = true then some o else none, fun b hb => if_pos hb, fun h1 h2 => (if_neg h2).trans (if_pos ⟨rfl, h1⟩), fun b u e => ?_⟩
  have e : (if b ∈ tt then some (.tbl #[]) else if b = a ∧ own = true then some o else none) = some u := e
  by_cases h1 : b ∈ tt
  · rw [if_pos h1] at e
    exact .inl ⟨h1, (Option.some.inj e).symm⟩
  · rw [if_neg h1] at e
    by_cases h2 : b = a ∧ own = true
    · rw [if_pos h2] at e
      exact .inr ⟨h2.1, h2.2, (Option.some.inj e).symm⟩
    · rw [if_neg h2] at e
      cases e
theorem lawgT (KX : K.In s1.heap) (hns : s1.heap.Ns mainGlobals mg) (hb : s1.heap.Ns builtinsNs mb) (hbb : ∀ x : Str, x ≠ "__name__" → mb x = bootBuiltins x) (lim : s1.heap.NoLimit) (gens : s1.gens = #[])
    (tb : ∀ p ∈ cs, PySem.W.CodeHd s1.heap p.1 p.2 ∧ s1.heap.get? p.2 = some (PySem.W.tabObj #[])) (nT : ∀ p ∈ cs, K.lookup p.2 = none)
    (bmain : ∃ bm ob, mg "__builtins__" = some (.ref bm) ∧ bm ≠ builtinsNs ∧ s1.heap.get? bm = some ob ∧ ob.cls = .type "module" ∧ ob.dict = some builtinsNs ∧ ob.data = .plain)
    (ha : s1.heap.get? a = some { cls := .type "list", data := .seq vs.toArray }) (hi : IntsAre vs ns) (hl : ns.length ≤ sizeLine) (room : Room k callerA) (hfa : mg "law" = some (.ref fa))
    (F : ∀ base : Heap, K.In base → base.Ns mainGlobals mg → (∀ p ∈ cs, TabB base mg p.1 p.2) → CalG P w K mg base k "law" sp)
    (want : ∀ H : Hp, (∀ p ∈ cs, H p.2 = some (.tbl #[])) → SqL K H a (ns.map V.int) → sp [.ref a] H (fun v _ => v = .bl true) C8.E0) :
    codeAny (model P w) callerA (.call (.ref fa) ⟨[.ref a], []⟩) (fun r s' => r = .ok (.ret (.bool true)) ∧ OldK s1.heap s'.heap ∧ s'.os = s1.os ∧ AllBare s'.gens) s1 := by
  have rel := vals_ints hi
  obtain ⟨tt, ett⟩ : ∃ tt : List Addr, tt = cs.map Prod.snd := ⟨_, rfl⟩
  have mt : ∀ b ∈ tt, ∃ p ∈ cs, p.2 = b := fun b hb => by
    rw [ett] at hb
    exact List.mem_map.mp hb
  have tm : ∀ p ∈ cs, p.2 ∈ tt := fun p hp => by
    rw [ett]
    exact List.mem_map.mpr ⟨p, hp, rfl⟩
  have an : a ∉ tt := fun z => by
    obtain ⟨p, hp, e⟩ := mt a z
    have q := (tb p hp).2
    rw [e, ha] at q
    cases q
  obtain ⟨own, eown⟩ : ∃ own : Bool, own = (K.lookup a).isNone := ⟨_, rfl⟩
  obtain ⟨H, hT, hA, hN⟩ := begins a tt (.frz { cls := .type "list", data := .seq vs.toArray } (.lst (ns.map V.int))) own
  have sq : SqL K H a (ns.map V.int) := by
    cases hk : K.lookup a with
    | none => exact .inl (.inr ⟨_, hA (by rw [eown, hk]; rfl) an⟩)
    | some o =>
      have g := KX a o hk
      rw [ha] at g
      cases g
      refine .inr ⟨_, vs.toArray, _, hk, rfl, rfl, rfl, ?_, by simpa using rel⟩
      rw [List.size_toArray, hi.length]
      exact hl
  have hok : HOk P w H s1.heap := fun b u z => by
    rcases hN b u z with ⟨h1, rfl⟩ | ⟨rfl, _, rfl⟩
    · obtain ⟨p, hp, rfl⟩ := mt b h1
      exact (tb p hp).2
    · exact ⟨ha, by rw [List.length_map]; exact hl, vs, _, rel, ha⟩
  have fr : ∀ {b : Addr} {o : Obj}, s1.heap.get? b = some o → o.data ≠ .fields #[] → o.data ≠ .seq vs.toArray → H b = none := fun {b o} g n1 n2 => by
    cases q : H b with
    | none => rfl
    | some u =>
      rcases hN b u q with ⟨h1, _⟩ | ⟨rfl, _, _⟩
      · obtain ⟨p, hp, rfl⟩ := mt b h1
        rw [(tb p hp).2] at g
        cases g
        exact absurd rfl n1
      · rw [ha] at g
        cases g
        exact absurd rfl n2
  have frD : ∀ {b : Addr} {o : Obj} {es : Array DictEntry} {ep : Nat}, s1.heap.get? b = some o → o.data = .dict es ep → H b = none := fun {b o es ep} g d => fr g (by rw [d]; intro z; cases z) (by rw [d]; intro z; cases z)
  have nsOf : ∀ {b : Addr} {m : Str → Option Value}, s1.heap.Ns b m → (hidT s1.heap H).Ns b m := fun {b m} ⟨o, es, ep, g, d, r⟩ => ⟨o, es, ep, hidT_get g (frD g d), d, r⟩
  have kin : K.In (hidT s1.heap H) := fun b o look => by
    refine hidT_get (KX b o look) ?_
    cases q : H b with
    | none => rfl
    | some u =>
      rcases hN b u q with ⟨h1, _⟩ | ⟨rfl, ho, _⟩
      · obtain ⟨p, hp, rfl⟩ := mt b h1
        rw [nT p hp] at look
        cases look
      · rw [eown, look] at ho
        cases ho
  have TB : ∀ p ∈ cs, TabB (hidT s1.heap H) mg p.1 p.2 := fun p hp => by
    obtain ⟨c1, p1⟩ := tb p hp
    have nM : mainGlobals ≠ p.2 := fun z => by
      obtain ⟨o, es, ep, g, d, _⟩ := hns
      rw [z, p1] at g
      cases g
      cases d
    refine ⟨?_, ?_, nM⟩
    · obtain ⟨o, us, fl, tf, fg, tg, fi, tx, tt', g, cl, d, d11, r⟩ := c1
      refine ⟨o, us, fl, tf, fg, tg, fi, tx, tt', hidT_get g (fr g ?_ ?_), cl, d, d11, r⟩
      · rw [d]
        intro z
        cases z
        simp at d11
      · rw [d]
        intro z
        cases z
    · obtain ⟨bm, ob, z1, z2, g, z4, z5, z6⟩ := bmain
      refine ⟨bm, ob, z1, z2, fun e => ?_, fun e => ?_, hidT_get g (fr g ?_ ?_), z4, z5, z6⟩
      · obtain ⟨o, es, ep, g2, d, _⟩ := hns
        rw [e, g2] at g
        cases g
        rw [d] at z6
        cases z6
      · rw [e, p1] at g
        cases g
        cases z6
      · rw [z6]
        intro z
        cases z
      · rw [z6]
        intro z
        cases z
  have e0 : Env0 P w K mg (hidT s1.heap H) callerA [] s1 H := by
    obtain ⟨mc, y1, y2⟩ := lim
    exact ⟨rfl, ⟨kin, nsOf hns, ⟨mb, nsOf hb, hbb⟩, ⟨mc, nsOf y1, y2⟩⟩, fun b o g => of_hidT g, Nat.le_of_eq (hidT_size _ _), trivial, fun b z => (nomatch (show b ∈ ([] : List Addr) from z)), hok, .of_eq gens⟩
  obtain ⟨f, fd, ps, hlen, run, hm, kp, b⟩ := (F _ kin (nsOf hns) TB).ex
  rw [hfa] at hm
  cases hm
  have hw := want H (fun p hp => hT _ (tm p hp)) sq
  have one : ps.length = 1 := (hlen _ _ _ _ hw).symm
  obtain ⟨p0, rfl⟩ : ∃ p0, ps = [p0] := by
    match ps, one with
    | [p0], _ => exact ⟨p0, rfl⟩
  refine codeAny_mono (run callerA [] s1 H ⟨[.ref a], []⟩ [.ref a] [.ref a] _ _ rfl room e0 (b s1 [.ref a] KX rfl) (.cons rfl .nil) hw) fun r s' got => ?_
  cases r with
  | error e => exact (show False from got).elim
  | ok fl => cases fl with
    | next => exact (show False from got).elim
    | brk => exact (show False from got).elim
    | cont => exact (show False from got).elim
    | ret u =>
      obtain ⟨v, H', os, bare, un, hok', rv, ev⟩ := got
      have ev : v = .bl true := ev
      subst ev
      cases (show u = Value.bool true from rv)
      have grow : ∀ p ∈ cs, ∃ more : Array Value, s'.heap.get? p.2 = some (PySem.W.tabObj (#[] ++ more)) := fun p hp => by
        obtain ⟨more, z⟩ := un.tbls p.2 #[] (hT _ (tm p hp))
        exact ⟨more, hok' p.2 _ z⟩
      have stay : ∀ b o, b ∉ tt → s1.heap.get? b = some o → s'.heap.get? b = some o := fun b o nb g => by
        cases q : H b with
        | none => exact un.keep b o g q (fun z => nomatch (show b ∈ ([] : List Addr) from z)) (fun z => nomatch z)
        | some u =>
          rcases hN b u q with ⟨h1, _⟩ | ⟨_, _, rfl⟩
          · exact absurd h1 nb
          · obtain ⟨g1, _⟩ := hok b _ q
            obtain ⟨g2, _⟩ := hok' b _ (un.frzs b _ _ q)
            rw [g] at g1
            cases g1
            exact g2
      refine ⟨rfl, ⟨fun b o g => ?_, fun b o g => ?_⟩, os, bare⟩
      · by_cases h1 : b ∈ tt
        · obtain ⟨p, hp, rfl⟩ := mt b h1
          obtain ⟨more, hm⟩ := grow p hp
          obtain ⟨c1, p1⟩ := tb p hp
          rw [p1] at g
          cases g
          exact .inr (.inl ⟨(c1.tab p1).isCodeTable, rfl, #[], more, rfl, hm⟩)
        · exact .inl (stay b o h1 g)
      · by_cases h1 : b ∈ tt
        · obtain ⟨p, hp, rfl⟩ := mt b h1
          obtain ⟨more, hm⟩ := grow p hp
          exact ⟨_, hm⟩
        · exact ⟨o, stay b o h1 g⟩
end
/-- what k_head leaves, from the law's promise, tables told -/
theorem walkgT {l : PySem.W.OpenLaw} {n k : Nat} {q : Program} {loose : List Str} {XP : (Str → Option Value) → Heap → Prop} {YP : World → Heap → Prop} {d : DefRec} {K : Params → PySem.W.Frag} {sp : PySem.W.Frag → Sp} (cs : List (Addr × Addr))
    (hn : l.most = some n) (hn2 : n ≤ sizeLine) (hdf : d.params.defaults = []) (hname : d.name = ("law" : Str)) (room : Room k callerA) (hY : ∀ (w : World) (h : Heap), YP w h → (K w.params).In h ∧ ∀ p ∈ cs, h.get? p.2 = some (PySem.W.tabObj #[]))
    (hC : ∀ (w : World), ∀ p ∈ cs, PySem.W.codeHdIn (K w.params) p.1 p.2 = true ∧ (K w.params).lookup p.2 = none)
    (F : ∀ (w : World) (mg : Str → Option Value) (h : Heap), (K w.params).In h → h.Ns mainGlobals mg → ∀ base : Heap, (K w.params).In base → base.Ns mainGlobals mg → (∀ p ∈ cs, TabB base mg p.1 p.2) → CalG l.prog w (K w.params) mg base k "law" (sp (K w.params)))
    (want : ∀ (K : PySem.W.Frag) (H : Hp) (a : Addr) (ns : List Int), ns.length ≤ n → (∀ p ∈ cs, H p.2 = some (.tbl #[])) → SqL K H a (ns.map V.int) → sp K [.ref a] H (fun v _ => v = .bl true) C8.E0) :
    PySem.W.WalkO q loose XP YP l.row.toRowW d [] (fun g us => PySem.call g us) := by
  refine Att.attach_call hn hdf ?_
  intro w s0 s1 mg mb fa o pm cd doc a vs ns G Y ho hd hcd hmg hobj hints hlen hgen
  obtain ⟨kin, tabs⟩ := hY w _ Y
  rw [hname] at hmg
  exact lawgT kin G.T.g G.T.b G.T.builtins G.T.nolimit hgen (fun p hp => ⟨PySem.W.codeHd_of_K kin (hC w p hp).1, tabs p hp⟩) (fun p hp => (hC w p hp).2) G.T.bmain hobj hints (Nat.le_trans hlen hn2) room hmg (F w mg _ kin G.T.g) fun H hT sq => want _ H a ns hlen hT sq
end KN

set_option Elab.async false
set_option maxRecDepth 100000
set_option maxHeartbeats 4000000
namespace K9
open PySem PySem.Spec PyProof.Rows L2 SX Evl KL KX KN LamX
theorem all_of {l : PySem.W.OpenLaw} {w : World} {K : PySem.W.Frag} {h : Heap} {mg : Str → Option Value} (hl : l.prog = PySem.Challenge.pw_keptlines_k09_lasting_by_hand) (X : K.In h) (G : h.Ns mainGlobals mg)
    {f0 : Addr} {oc0 kV0 dc0 pm0 cd0 ct0 : Value} {od0 an0 : Option Addr} {sl0 : Array (Option Value)}
    (a0 : PySem.W.nsIn K mainGlobals "made_of" = some (some (.ref f0)))
    (l0 : K.lookup f0 = some ⟨oc0, od0, .func (PySem.W.fnOf "made_of" "made_of" (C8.fnArgs s_made_of) (C8.fnBody s_made_of) (C8.fnScope s_made_of) .none kV0 dc0 pm0 an0 cd0 ct0), sl0⟩)
    (c0 : PySem.W.codeIn K cd0 "made_of" = true)
    (k0 : PySem.W.keepIn K (.ref f0) = true)
    {f1 : Addr} {oc1 kV1 dc1 pm1 cd1 ct1 : Value} {od1 an1 : Option Addr} {sl1 : Array (Option Value)}
    (a1 : PySem.W.nsIn K mainGlobals "is_word" = some (some (.ref f1)))
    (l1 : K.lookup f1 = some ⟨oc1, od1, .func (PySem.W.fnOf "is_word" "is_word" (C8.fnArgs s_is_word) (C8.fnBody s_is_word) (C8.fnScope s_is_word) .none kV1 dc1 pm1 an1 cd1 ct1), sl1⟩)
    (c1 : PySem.W.codeIn K cd1 "is_word" = true)
    (k1 : PySem.W.keepIn K (.ref f1) = true)
    {f2 : Addr} {oc2 kV2 dc2 pm2 cd2 ct2 : Value} {od2 an2 : Option Addr} {sl2 : Array (Option Value)}
    (a2 : PySem.W.nsIn K mainGlobals "is_name" = some (some (.ref f2)))
    (l2 : K.lookup f2 = some ⟨oc2, od2, .func (PySem.W.fnOf "is_name" "is_name" (C8.fnArgs s_is_name) (C8.fnBody s_is_name) (C8.fnScope s_is_name) .none kV2 dc2 pm2 an2 cd2 ct2), sl2⟩)
    (c2 : PySem.W.codeIn K cd2 "is_name" = true)
    (k2 : PySem.W.keepIn K (.ref f2) = true)
    {f3 : Addr} {oc3 kV3 dc3 pm3 cd3 ct3 : Value} {od3 an3 : Option Addr} {sl3 : Array (Option Value)}
    (a3 : PySem.W.nsIn K mainGlobals "is_letter" = some (some (.ref f3)))
    (l3 : K.lookup f3 = some ⟨oc3, od3, .func (PySem.W.fnOf "is_letter" "is_letter" (C8.fnArgs s_is_letter) (C8.fnBody s_is_letter) (C8.fnScope s_is_letter) .none kV3 dc3 pm3 an3 cd3 ct3), sl3⟩)
    (c3 : PySem.W.codeIn K cd3 "is_letter" = true)
    (k3 : PySem.W.keepIn K (.ref f3) = true)
    {f4 : Addr} {oc4 kV4 dc4 pm4 cd4 ct4 : Value} {od4 an4 : Option Addr} {sl4 : Array (Option Value)}
    (a4 : PySem.W.nsIn K mainGlobals "is_dashed" = some (some (.ref f4)))
    (l4 : K.lookup f4 = some ⟨oc4, od4, .func (PySem.W.fnOf "is_dashed" "is_dashed" (C8.fnArgs s_is_dashed) (C8.fnBody s_is_dashed) (C8.fnScope s_is_dashed) .none kV4 dc4 pm4 an4 cd4 ct4), sl4⟩)
    (c4 : PySem.W.codeIn K cd4 "is_dashed" = true)
    (k4 : PySem.W.keepIn K (.ref f4) = true)
    {f5 : Addr} {oc5 kV5 dc5 pm5 cd5 ct5 : Value} {od5 an5 : Option Addr} {sl5 : Array (Option Value)}
    (a5 : PySem.W.nsIn K mainGlobals "is_number" = some (some (.ref f5)))
    (l5 : K.lookup f5 = some ⟨oc5, od5, .func (PySem.W.fnOf "is_number" "is_number" (C8.fnArgs s_is_number) (C8.fnBody s_is_number) (C8.fnScope s_is_number) .none kV5 dc5 pm5 an5 cd5 ct5), sl5⟩)
    (c5 : PySem.W.codeIn K cd5 "is_number" = true)
    (k5 : PySem.W.keepIn K (.ref f5) = true)
    {f6 : Addr} {oc6 kV6 dc6 pm6 cd6 ct6 : Value} {od6 an6 : Option Addr} {sl6 : Array (Option Value)}
    (a6 : PySem.W.nsIn K mainGlobals "need_line" = some (some (.ref f6)))
    (l6 : K.lookup f6 = some ⟨oc6, od6, .func (PySem.W.fnOf "need_line" "need_line" (C8.fnArgs s_need_line) (C8.fnBody s_need_line) (C8.fnScope s_need_line) .none kV6 dc6 pm6 an6 cd6 ct6), sl6⟩)
    (c6 : PySem.W.codeIn K cd6 "need_line" = true)
    (k6 : PySem.W.keepIn K (.ref f6) = true)
    {f7 : Addr} {oc7 kV7 dc7 pm7 cd7 ct7 : Value} {od7 an7 : Option Addr} {sl7 : Array (Option Value)}
    (a7 : PySem.W.nsIn K mainGlobals "is_one_of" = some (some (.ref f7)))
    (l7 : K.lookup f7 = some ⟨oc7, od7, .func (PySem.W.fnOf "is_one_of" "is_one_of" (C8.fnArgs s_is_one_of) (C8.fnBody s_is_one_of) (C8.fnScope s_is_one_of) .none kV7 dc7 pm7 an7 cd7 ct7), sl7⟩)
    (c7 : PySem.W.codeIn K cd7 "is_one_of" = true)
    (k7 : PySem.W.keepIn K (.ref f7) = true)
    {f8 : Addr} {oc8 kV8 dc8 pm8 cd8 ct8 : Value} {od8 an8 : Option Addr} {sl8 : Array (Option Value)}
    (a8 : PySem.W.nsIn K mainGlobals "is_tuple_of" = some (some (.ref f8)))
    (l8 : K.lookup f8 = some ⟨oc8, od8, .func (PySem.W.fnOf "is_tuple_of" "is_tuple_of" (C8.fnArgs s_is_tuple_of) (C8.fnBody s_is_tuple_of) (C8.fnScope s_is_tuple_of) .none kV8 dc8 pm8 an8 cd8 ct8), sl8⟩)
    (c8 : PySem.W.codeIn K cd8 "is_tuple_of" = true)
    (k8 : PySem.W.keepIn K (.ref f8) = true)
    {f9 : Addr} {oc9 kV9 dc9 pm9 cd9 ct9 : Value} {od9 an9 : Option Addr} {sl9 : Array (Option Value)}
    (a9 : PySem.W.nsIn K mainGlobals "is_option" = some (some (.ref f9)))
    (l9 : K.lookup f9 = some ⟨oc9, od9, .func (PySem.W.fnOf "is_option" "is_option" (C8.fnArgs s_is_option) (C8.fnBody s_is_option) (C8.fnScope s_is_option) .none kV9 dc9 pm9 an9 cd9 ct9), sl9⟩)
    (c9 : PySem.W.codeIn K cd9 "is_option" = true)
    (k9 : PySem.W.keepIn K (.ref f9) = true)
    {f10 : Addr} {oc10 kV10 dc10 pm10 cd10 ct10 : Value} {od10 an10 : Option Addr} {sl10 : Array (Option Value)}
    (a10 : PySem.W.nsIn K mainGlobals "is_place" = some (some (.ref f10)))
    (l10 : K.lookup f10 = some ⟨oc10, od10, .func (PySem.W.fnOf "is_place" "is_place" (C8.fnArgs s_is_place) (C8.fnBody s_is_place) (C8.fnScope s_is_place) .none kV10 dc10 pm10 an10 cd10 ct10), sl10⟩)
    (c10 : PySem.W.codeIn K cd10 "is_place" = true)
    (k10 : PySem.W.keepIn K (.ref f10) = true)
    {f11 : Addr} {oc11 kV11 dc11 pm11 cd11 ct11 : Value} {od11 an11 : Option Addr} {sl11 : Array (Option Value)}
    (a11 : PySem.W.nsIn K mainGlobals "need_options" = some (some (.ref f11)))
    (l11 : K.lookup f11 = some ⟨oc11, od11, .func (PySem.W.fnOf "need_options" "need_options" (C8.fnArgs s_need_options) (C8.fnBody s_need_options) (C8.fnScope s_need_options) .none kV11 dc11 pm11 an11 cd11 ct11), sl11⟩)
    (c11 : PySem.W.codeIn K cd11 "need_options" = true)
    (k11 : PySem.W.keepIn K (.ref f11) = true)
    {f12 : Addr} {oc12 kV12 dc12 pm12 cd12 ct12 : Value} {od12 an12 : Option Addr} {sl12 : Array (Option Value)}
    (a12 : PySem.W.nsIn K mainGlobals "need_places" = some (some (.ref f12)))
    (l12 : K.lookup f12 = some ⟨oc12, od12, .func (PySem.W.fnOf "need_places" "need_places" (C8.fnArgs s_need_places) (C8.fnBody s_need_places) (C8.fnScope s_need_places) .none kV12 dc12 pm12 an12 cd12 ct12), sl12⟩)
    (c12 : PySem.W.codeIn K cd12 "need_places" = true)
    (k12 : PySem.W.keepIn K (.ref f12) = true)
    {f13 : Addr} {oc13 kV13 dc13 pm13 cd13 ct13 : Value} {od13 an13 : Option Addr} {sl13 : Array (Option Value)}
    (a13 : PySem.W.nsIn K mainGlobals "need_modes" = some (some (.ref f13)))
    (l13 : K.lookup f13 = some ⟨oc13, od13, .func (PySem.W.fnOf "need_modes" "need_modes" (C8.fnArgs s_need_modes) (C8.fnBody s_need_modes) (C8.fnScope s_need_modes) .none kV13 dc13 pm13 an13 cd13 ct13), sl13⟩)
    (c13 : PySem.W.codeIn K cd13 "need_modes" = true)
    (k13 : PySem.W.keepIn K (.ref f13) = true)
    {f14 : Addr} {oc14 kV14 dc14 pm14 cd14 ct14 : Value} {od14 an14 : Option Addr} {sl14 : Array (Option Value)}
    (a14 : PySem.W.nsIn K mainGlobals "need_grammar" = some (some (.ref f14)))
    (l14 : K.lookup f14 = some ⟨oc14, od14, .func (PySem.W.fnOf "need_grammar" "need_grammar" (C8.fnArgs s_need_grammar) (C8.fnBody s_need_grammar) (C8.fnScope s_need_grammar) .none kV14 dc14 pm14 an14 cd14 ct14), sl14⟩)
    (c14 : PySem.W.codeIn K cd14 "need_grammar" = true)
    (k14 : PySem.W.keepIn K (.ref f14) = true)
    {f15 : Addr} {oc15 kV15 dc15 pm15 cd15 ct15 : Value} {od15 an15 : Option Addr} {sl15 : Array (Option Value)}
    (a15 : PySem.W.nsIn K mainGlobals "reads_numbers" = some (some (.ref f15)))
    (l15 : K.lookup f15 = some ⟨oc15, od15, .func (PySem.W.fnOf "reads_numbers" "reads_numbers" (C8.fnArgs s_reads_numbers) (C8.fnBody s_reads_numbers) (C8.fnScope s_reads_numbers) .none kV15 dc15 pm15 an15 cd15 ct15), sl15⟩)
    (c15 : PySem.W.codeIn K cd15 "reads_numbers" = true)
    (k15 : PySem.W.keepIn K (.ref f15) = true)
    {f16 : Addr} {oc16 kV16 dc16 pm16 cd16 ct16 : Value} {od16 an16 : Option Addr} {sl16 : Array (Option Value)}
    (a16 : PySem.W.nsIn K mainGlobals "count_arity" = some (some (.ref f16)))
    (l16 : K.lookup f16 = some ⟨oc16, od16, .func (PySem.W.fnOf "count_arity" "count_arity" (C8.fnArgs s_count_arity) (C8.fnBody s_count_arity) (C8.fnScope s_count_arity) .none kV16 dc16 pm16 an16 cd16 ct16), sl16⟩)
    (c16 : PySem.W.codeIn K cd16 "count_arity" = true)
    (k16 : PySem.W.keepIn K (.ref f16) = true)
    {f17 : Addr} {oc17 kV17 dc17 pm17 cd17 ct17 : Value} {od17 an17 : Option Addr} {sl17 : Array (Option Value)}
    (a17 : PySem.W.nsIn K mainGlobals "span" = some (some (.ref f17)))
    (l17 : K.lookup f17 = some ⟨oc17, od17, .func (PySem.W.fnOf "span" "span" (C8.fnArgs s_span) (C8.fnBody s_span) (C8.fnScope s_span) .none kV17 dc17 pm17 an17 cd17 ct17), sl17⟩)
    (c17 : PySem.W.codeIn K cd17 "span" = true)
    (k17 : PySem.W.keepIn K (.ref f17) = true)
    {f18 : Addr} {oc18 kV18 dc18 pm18 cd18 ct18 : Value} {od18 an18 : Option Addr} {sl18 : Array (Option Value)}
    (a18 : PySem.W.nsIn K mainGlobals "read_by" = some (some (.ref f18)))
    (l18 : K.lookup f18 = some ⟨oc18, od18, .func (PySem.W.fnOf "read_by" "read_by" (C8.fnArgs s_read_by) (C8.fnBody s_read_by) (C8.fnScope s_read_by) .none kV18 dc18 pm18 an18 cd18 ct18), sl18⟩)
    (c18 : PySem.W.codeIn K cd18 "read_by" = true)
    (k18 : PySem.W.keepIn K (.ref f18) = true)
    {f19 : Addr} {oc19 kV19 dc19 pm19 cd19 ct19 : Value} {od19 an19 : Option Addr} {sl19 : Array (Option Value)}
    (a19 : PySem.W.nsIn K mainGlobals "lasts" = some (some (.ref f19)))
    (l19 : K.lookup f19 = some ⟨oc19, od19, .func (PySem.W.fnOf "lasts" "lasts" (C8.fnArgs s_lasts) (C8.fnBody s_lasts) (C8.fnScope s_lasts) .none kV19 dc19 pm19 an19 cd19 ct19), sl19⟩)
    (c19 : PySem.W.codeIn K cd19 "lasts" = true)
    (k19 : PySem.W.keepIn K (.ref f19) = true)
    {f20 : Addr} {oc20 kV20 dc20 pm20 cd20 ct20 : Value} {od20 an20 : Option Addr} {sl20 : Array (Option Value)}
    (a20 : PySem.W.nsIn K mainGlobals "_law_mixed" = some (some (.ref f20)))
    (l20 : K.lookup f20 = some ⟨oc20, od20, .func (PySem.W.fnOf "_law_mixed" "_law_mixed" (C8.fnArgs s_law_mixed) (C8.fnBody s_law_mixed) (C8.fnScope s_law_mixed) .none kV20 dc20 pm20 an20 cd20 ct20), sl20⟩)
    (c20 : PySem.W.codeIn K cd20 "_law_mixed" = true)
    (k20 : PySem.W.keepIn K (.ref f20) = true)
    {f21 : Addr} {oc21 kV21 dc21 pm21 cd21 ct21 : Value} {od21 an21 : Option Addr} {sl21 : Array (Option Value)}
    (a21 : PySem.W.nsIn K mainGlobals "_law_begin" = some (some (.ref f21)))
    (l21 : K.lookup f21 = some ⟨oc21, od21, .func (PySem.W.fnOf "_law_begin" "_law_begin" (C8.fnArgs s_law_begin) (C8.fnBody s_law_begin) (C8.fnScope s_law_begin) .none kV21 dc21 pm21 an21 cd21 ct21), sl21⟩)
    (c21 : PySem.W.codeIn K cd21 "_law_begin" = true)
    (k21 : PySem.W.keepIn K (.ref f21) = true)
    {f22 : Addr} {oc22 kV22 dc22 pm22 cd22 ct22 : Value} {od22 an22 : Option Addr} {sl22 : Array (Option Value)}
    (a22 : PySem.W.nsIn K mainGlobals "_law_draw" = some (some (.ref f22)))
    (l22 : K.lookup f22 = some ⟨oc22, od22, .func (PySem.W.fnOf "_law_draw" "_law_draw" (C8.fnArgs s_law_draw) (C8.fnBody s_law_draw) (C8.fnScope s_law_draw) .none kV22 dc22 pm22 an22 cd22 ct22), sl22⟩)
    (c22 : PySem.W.codeIn K cd22 "_law_draw" = true)
    (k22 : PySem.W.keepIn K (.ref f22) = true)
    {f23 : Addr} {oc23 kV23 dc23 pm23 cd23 ct23 : Value} {od23 an23 : Option Addr} {sl23 : Array (Option Value)}
    (a23 : PySem.W.nsIn K mainGlobals "_law_rows" = some (some (.ref f23)))
    (l23 : K.lookup f23 = some ⟨oc23, od23, .func (PySem.W.fnOf "_law_rows" "_law_rows" (C8.fnArgs s_law_rows) (C8.fnBody s_law_rows) (C8.fnScope s_law_rows) .none kV23 dc23 pm23 an23 cd23 ct23), sl23⟩)
    (c23 : PySem.W.codeIn K cd23 "_law_rows" = true)
    (k23 : PySem.W.keepIn K (.ref f23) = true)
    {f24 : Addr} {oc24 kV24 dc24 pm24 cd24 ct24 : Value} {od24 an24 : Option Addr} {sl24 : Array (Option Value)}
    (a24 : PySem.W.nsIn K mainGlobals "law" = some (some (.ref f24)))
    (l24 : K.lookup f24 = some ⟨oc24, od24, .func (PySem.W.fnOf "law" "law" (C8.fnArgs s_law) (C8.fnBody s_law) (C8.fnScope s_law) .none kV24 dc24 pm24 an24 cd24 ct24), sl24⟩)
    (c24 : PySem.W.codeIn K cd24 "law" = true)
    (k24 : PySem.W.keepIn K (.ref f24) = true)
    (z_int : PySem.W.nsIn K mainGlobals "int" = some none)
    (z_len : PySem.W.nsIn K mainGlobals "len" = some none)
    (z_list : PySem.W.nsIn K mainGlobals "list" = some none)
    (z_tuple : PySem.W.nsIn K mainGlobals "tuple" = some none)
    (z_range : PySem.W.nsIn K mainGlobals "range" = some none)
    (z_enumerate : PySem.W.nsIn K mainGlobals "enumerate" = some none)
    (z_isinstance : PySem.W.nsIn K mainGlobals "isinstance" = some none)
    (z_all : PySem.W.nsIn K mainGlobals "all" = some none)
    (z_any : PySem.W.nsIn K mainGlobals "any" = some none)
    (z_max : PySem.W.nsIn K mainGlobals "max" = some none)
    (z_repr : PySem.W.nsIn K mainGlobals "repr" = some none)
    (z_str : PySem.W.nsIn K mainGlobals "str" = some none)
    (z_bool : PySem.W.nsIn K mainGlobals "bool" = some none)
    {u_MOST_SIGNS : Value}
    (g_MOST_SIGNS : PySem.W.nsIn K mainGlobals "MOST_SIGNS" = some (some u_MOST_SIGNS))
    (r_MOST_SIGNS : RelV (.int 80) u_MOST_SIGNS)
    {u_MOST_WORDS : Value}
    (g_MOST_WORDS : PySem.W.nsIn K mainGlobals "MOST_WORDS" = some (some u_MOST_WORDS))
    (r_MOST_WORDS : RelV (.int 80) u_MOST_WORDS)
    {u_LEAST_NAME : Value}
    (g_LEAST_NAME : PySem.W.nsIn K mainGlobals "LEAST_NAME" = some (some u_LEAST_NAME))
    (r_LEAST_NAME : RelV (.int 2) u_LEAST_NAME)
    {u_MOST_NAME : Value}
    (g_MOST_NAME : PySem.W.nsIn K mainGlobals "MOST_NAME" = some (some u_MOST_NAME))
    (r_MOST_NAME : RelV (.int 12) u_MOST_NAME)
    {u_MOST_OPTIONS : Value}
    (g_MOST_OPTIONS : PySem.W.nsIn K mainGlobals "MOST_OPTIONS" = some (some u_MOST_OPTIONS))
    (r_MOST_OPTIONS : RelV (.int 24) u_MOST_OPTIONS)
    {u_MOST_PLACES : Value}
    (g_MOST_PLACES : PySem.W.nsIn K mainGlobals "MOST_PLACES" = some (some u_MOST_PLACES))
    (r_MOST_PLACES : RelV (.int 5) u_MOST_PLACES)
    {u_FIGURES : Value}
    (g_FIGURES : PySem.W.nsIn K mainGlobals "FIGURES" = some (some u_FIGURES))
    (r_FIGURES : RelV (.str sgFigure) u_FIGURES)
    {u_LETTERS : Value}
    (g_LETTERS : PySem.W.nsIn K mainGlobals "LETTERS" = some (some u_LETTERS))
    (r_LETTERS : RelV (.str sgLetter) u_LETTERS)
    {u_NAME_SIGNS : Value}
    (g_NAME_SIGNS : PySem.W.nsIn K mainGlobals "NAME_SIGNS" = some (some u_NAME_SIGNS))
    (r_NAME_SIGNS : RelV (.str sgName) u_NAME_SIGNS)
    {u_SIGNS : Value}
    (g_SIGNS : PySem.W.nsIn K mainGlobals "SIGNS" = some (some u_SIGNS))
    (r_SIGNS : RelV (.str sgWord) u_SIGNS)
    {aK : Addr} {o_KINDS : Obj} {t_KINDS : Array Value} {m_KINDS : Nat}
    (g_KINDS : PySem.W.nsIn K mainGlobals "KINDS" = some (some (.ref aK)))
    (l_KINDS : K.lookup aK = some o_KINDS)
    (c_KINDS : o_KINDS.cls = .type "tuple")
    (d_KINDS : o_KINDS.data = .seq t_KINDS m_KINDS)
    (s_KINDS : t_KINDS.size ≤ sizeLine)
    (v_KINDS : Vals [.str "flag", .str "count", .str "once", .str "last", .str "all", .str "maybe"] t_KINDS.toList)
    {aA : Addr} {o_ARITIES : Obj} {t_ARITIES : Array Value} {m_ARITIES : Nat}
    (g_ARITIES : PySem.W.nsIn K mainGlobals "ARITIES" = some (some (.ref aA)))
    (l_ARITIES : K.lookup aA = some o_ARITIES)
    (c_ARITIES : o_ARITIES.cls = .type "tuple")
    (d_ARITIES : o_ARITIES.data = .seq t_ARITIES m_ARITIES)
    (s_ARITIES : t_ARITIES.size ≤ sizeLine)
    (v_ARITIES : Vals [.str "one", .str "may", .str "many"] t_ARITIES.toList)
    {aV : Addr} {o_VALUELESS : Obj} {t_VALUELESS : Array Value} {m_VALUELESS : Nat}
    (g_VALUELESS : PySem.W.nsIn K mainGlobals "VALUELESS" = some (some (.ref aV)))
    (l_VALUELESS : K.lookup aV = some o_VALUELESS)
    (c_VALUELESS : o_VALUELESS.cls = .type "tuple")
    (d_VALUELESS : o_VALUELESS.data = .seq t_VALUELESS m_VALUELESS)
    (s_VALUELESS : t_VALUELESS.size ≤ sizeLine)
    (v_VALUELESS : Vals [.str "flag", .str "count"] t_VALUELESS.toList)
    {aL : Addr} {o_LONE : Obj} {t_LONE : Array Value} {m_LONE : Nat}
    (g_LONE : PySem.W.nsIn K mainGlobals "LONE" = some (some (.ref aL)))
    (l_LONE : K.lookup aL = some o_LONE)
    (c_LONE : o_LONE.cls = .type "tuple")
    (d_LONE : o_LONE.data = .seq t_LONE m_LONE)
    (s_LONE : t_LONE.size ≤ sizeLine)
    (v_LONE : Vals [.str "flag", .str "count", .str "maybe"] t_LONE.toList)
    {CR : Addr}
    (aCR : PySem.W.nsIn K mainGlobals "Rules" = some (some (.ref CR)))
    {fCR_initU : Addr} {ocCR_initU kVCR_initU dcCR_initU pmCR_initU cdCR_initU ctCR_initU : Value} {odCR_initU anCR_initU : Option Addr} {slCR_initU : Array (Option Value)}
    (aCR_initU : PySem.W.findIn K (.ref CR) "__init__" = some (some (.ref fCR_initU)))
    (iCR_initU : PySem.W.isFn K (.ref fCR_initU) = true)
    (lCR_initU : K.lookup fCR_initU = some ⟨ocCR_initU, odCR_initU, .func (PySem.W.fnOf "__init__" "Rules.__init__" (C8.fnArgs s_initU) (C8.fnBody s_initU) (C8.fnScope s_initU) .none kVCR_initU dcCR_initU pmCR_initU anCR_initU cdCR_initU ctCR_initU), slCR_initU⟩)
    (cCR_initU : PySem.W.codeIn K cdCR_initU "Rules.__init__" = true)
    (kCR_initU : PySem.W.keepIn K (.ref fCR_initU) = true)
    {fCR_tells : Addr} {ocCR_tells kVCR_tells dcCR_tells pmCR_tells cdCR_tells ctCR_tells : Value} {odCR_tells anCR_tells : Option Addr} {slCR_tells : Array (Option Value)}
    (aCR_tells : PySem.W.findIn K (.ref CR) "tells" = some (some (.ref fCR_tells)))
    (iCR_tells : PySem.W.isFn K (.ref fCR_tells) = true)
    (lCR_tells : K.lookup fCR_tells = some ⟨ocCR_tells, odCR_tells, .func (PySem.W.fnOf "tells" "Rules.tells" (C8.fnArgs s_tells) (C8.fnBody s_tells) (C8.fnScope s_tells) .none kVCR_tells dcCR_tells pmCR_tells anCR_tells cdCR_tells ctCR_tells), slCR_tells⟩)
    (cCR_tells : PySem.W.codeIn K cdCR_tells "Rules.tells" = true)
    (kCR_tells : PySem.W.keepIn K (.ref fCR_tells) = true)
    {fCR_takes_words : Addr} {ocCR_takes_words kVCR_takes_words dcCR_takes_words pmCR_takes_words cdCR_takes_words ctCR_takes_words : Value} {odCR_takes_words anCR_takes_words : Option Addr} {slCR_takes_words : Array (Option Value)}
    (aCR_takes_words : PySem.W.findIn K (.ref CR) "takes_words" = some (some (.ref fCR_takes_words)))
    (iCR_takes_words : PySem.W.isFn K (.ref fCR_takes_words) = true)
    (lCR_takes_words : K.lookup fCR_takes_words = some ⟨ocCR_takes_words, odCR_takes_words, .func (PySem.W.fnOf "takes_words" "Rules.takes_words" (C8.fnArgs s_takes_words) (C8.fnBody s_takes_words) (C8.fnScope s_takes_words) .none kVCR_takes_words dcCR_takes_words pmCR_takes_words anCR_takes_words cdCR_takes_words ctCR_takes_words), slCR_takes_words⟩)
    (cCR_takes_words : PySem.W.codeIn K cdCR_takes_words "Rules.takes_words" = true)
    (kCR_takes_words : PySem.W.keepIn K (.ref fCR_takes_words) = true)
    {fCR_deals : Addr} {ocCR_deals kVCR_deals dcCR_deals pmCR_deals cdCR_deals ctCR_deals : Value} {odCR_deals anCR_deals : Option Addr} {slCR_deals : Array (Option Value)}
    (aCR_deals : PySem.W.findIn K (.ref CR) "deals" = some (some (.ref fCR_deals)))
    (iCR_deals : PySem.W.isFn K (.ref fCR_deals) = true)
    (lCR_deals : K.lookup fCR_deals = some ⟨ocCR_deals, odCR_deals, .func (PySem.W.fnOf "deals" "Rules.deals" (C8.fnArgs s_deals) (C8.fnBody s_deals) (C8.fnScope s_deals) .none kVCR_deals dcCR_deals pmCR_deals anCR_deals cdCR_deals ctCR_deals), slCR_deals⟩)
    (cCR_deals : PySem.W.codeIn K cdCR_deals "Rules.deals" = true)
    (kCR_deals : PySem.W.keepIn K (.ref fCR_deals) = true)
    (pgCR : PySem.W.plainGet K CR Str.empty = true)
    (hdCR : PySem.W.hasDictIn K CR = true)
    (poCR : PySem.W.plainOver K CR = true)
    (saCR : PySem.W.findIn K (.ref CR) "__setattr__" = some (some (.builtin "object.__setattr__")))
    (mkCR : PySem.W.makesIn K CR = true)
    (kcCR : PySem.W.keepIn K (.ref CR) = true)
    (nCR_kinds : PySem.W.findIn K (.ref CR) "kinds" = some none)
    (nCR_own_letters : PySem.W.findIn K (.ref CR) "own_letters" = some none)
    (nCR_letters : PySem.W.findIn K (.ref CR) "letters" = some none)
    (nCR_places : PySem.W.findIn K (.ref CR) "places" = some none)
    (nCR_short : PySem.W.findIn K (.ref CR) "short" = some none)
    (nCR_mixed : PySem.W.findIn K (.ref CR) "mixed" = some none)
    (nCR_minus : PySem.W.findIn K (.ref CR) "minus" = some none)
    (nCR_fewest : PySem.W.findIn K (.ref CR) "fewest" = some none)
    (nCR_most : PySem.W.findIn K (.ref CR) "most" = some none)
    {C : Addr}
    (aC : PySem.W.nsIn K mainGlobals "Reading" = some (some (.ref C)))
    {fC_initR : Addr} {ocC_initR kVC_initR dcC_initR pmC_initR cdC_initR ctC_initR : Value} {odC_initR anC_initR : Option Addr} {slC_initR : Array (Option Value)}
    (aC_initR : PySem.W.findIn K (.ref C) "__init__" = some (some (.ref fC_initR)))
    (iC_initR : PySem.W.isFn K (.ref fC_initR) = true)
    (lC_initR : K.lookup fC_initR = some ⟨ocC_initR, odC_initR, .func (PySem.W.fnOf "__init__" "Reading.__init__" (C8.fnArgs s_initR) (C8.fnBody s_initR) (C8.fnScope s_initR) .none kVC_initR dcC_initR pmC_initR anC_initR cdC_initR ctC_initR), slC_initR⟩)
    (cC_initR : PySem.W.codeIn K cdC_initR "Reading.__init__" = true)
    (kC_initR : PySem.W.keepIn K (.ref fC_initR) = true)
    {fC_is_accepted : Addr} {ocC_is_accepted kVC_is_accepted dcC_is_accepted pmC_is_accepted cdC_is_accepted ctC_is_accepted : Value} {odC_is_accepted anC_is_accepted : Option Addr} {slC_is_accepted : Array (Option Value)}
    (aC_is_accepted : PySem.W.findIn K (.ref C) "is_accepted" = some (some (.ref fC_is_accepted)))
    (iC_is_accepted : PySem.W.isFn K (.ref fC_is_accepted) = true)
    (lC_is_accepted : K.lookup fC_is_accepted = some ⟨ocC_is_accepted, odC_is_accepted, .func (PySem.W.fnOf "is_accepted" "Reading.is_accepted" (C8.fnArgs s_is_accepted) (C8.fnBody s_is_accepted) (C8.fnScope s_is_accepted) .none kVC_is_accepted dcC_is_accepted pmC_is_accepted anC_is_accepted cdC_is_accepted ctC_is_accepted), slC_is_accepted⟩)
    (cC_is_accepted : PySem.W.codeIn K cdC_is_accepted "Reading.is_accepted" = true)
    (kC_is_accepted : PySem.W.keepIn K (.ref fC_is_accepted) = true)
    {fC_is_lasting : Addr} {ocC_is_lasting kVC_is_lasting dcC_is_lasting pmC_is_lasting cdC_is_lasting ctC_is_lasting : Value} {odC_is_lasting anC_is_lasting : Option Addr} {slC_is_lasting : Array (Option Value)}
    (aC_is_lasting : PySem.W.findIn K (.ref C) "is_lasting" = some (some (.ref fC_is_lasting)))
    (iC_is_lasting : PySem.W.isFn K (.ref fC_is_lasting) = true)
    (lC_is_lasting : K.lookup fC_is_lasting = some ⟨ocC_is_lasting, odC_is_lasting, .func (PySem.W.fnOf "is_lasting" "Reading.is_lasting" (C8.fnArgs s_is_lasting) (C8.fnBody s_is_lasting) (C8.fnScope s_is_lasting) .none kVC_is_lasting dcC_is_lasting pmC_is_lasting anC_is_lasting cdC_is_lasting ctC_is_lasting), slC_is_lasting⟩)
    (cC_is_lasting : PySem.W.codeIn K cdC_is_lasting "Reading.is_lasting" = true)
    (kC_is_lasting : PySem.W.keepIn K (.ref fC_is_lasting) = true)
    {fC_read_word : Addr} {ocC_read_word kVC_read_word dcC_read_word pmC_read_word cdC_read_word ctC_read_word : Value} {odC_read_word anC_read_word : Option Addr} {slC_read_word : Array (Option Value)}
    (aC_read_word : PySem.W.findIn K (.ref C) "read_word" = some (some (.ref fC_read_word)))
    (iC_read_word : PySem.W.isFn K (.ref fC_read_word) = true)
    (lC_read_word : K.lookup fC_read_word = some ⟨ocC_read_word, odC_read_word, .func (PySem.W.fnOf "read_word" "Reading.read_word" (C8.fnArgs s_read_word) (C8.fnBody s_read_word) (C8.fnScope s_read_word) .none kVC_read_word dcC_read_word pmC_read_word anC_read_word cdC_read_word ctC_read_word), slC_read_word⟩)
    (cC_read_word : PySem.W.codeIn K cdC_read_word "Reading.read_word" = true)
    (kC_read_word : PySem.W.keepIn K (.ref fC_read_word) = true)
    {fC_read_place_word : Addr} {ocC_read_place_word kVC_read_place_word dcC_read_place_word pmC_read_place_word cdC_read_place_word ctC_read_place_word : Value} {odC_read_place_word anC_read_place_word : Option Addr} {slC_read_place_word : Array (Option Value)}
    (aC_read_place_word : PySem.W.findIn K (.ref C) "read_place_word" = some (some (.ref fC_read_place_word)))
    (iC_read_place_word : PySem.W.isFn K (.ref fC_read_place_word) = true)
    (lC_read_place_word : K.lookup fC_read_place_word = some ⟨ocC_read_place_word, odC_read_place_word, .func (PySem.W.fnOf "read_place_word" "Reading.read_place_word" (C8.fnArgs s_read_place_word) (C8.fnBody s_read_place_word) (C8.fnScope s_read_place_word) .none kVC_read_place_word dcC_read_place_word pmC_read_place_word anC_read_place_word cdC_read_place_word ctC_read_place_word), slC_read_place_word⟩)
    (cC_read_place_word : PySem.W.codeIn K cdC_read_place_word "Reading.read_place_word" = true)
    (kC_read_place_word : PySem.W.keepIn K (.ref fC_read_place_word) = true)
    {fC_tell : Addr} {ocC_tell kVC_tell dcC_tell pmC_tell cdC_tell ctC_tell : Value} {odC_tell anC_tell : Option Addr} {slC_tell : Array (Option Value)}
    (aC_tell : PySem.W.findIn K (.ref C) "tell" = some (some (.ref fC_tell)))
    (iC_tell : PySem.W.isFn K (.ref fC_tell) = true)
    (lC_tell : K.lookup fC_tell = some ⟨ocC_tell, odC_tell, .func (PySem.W.fnOf "tell" "Reading.tell" (C8.fnArgs s_tell) (C8.fnBody s_tell) (C8.fnScope s_tell) .none kVC_tell dcC_tell pmC_tell anC_tell cdC_tell ctC_tell), slC_tell⟩)
    (cC_tell : PySem.W.codeIn K cdC_tell "Reading.tell" = true)
    (kC_tell : PySem.W.keepIn K (.ref fC_tell) = true)
    {fC_read_long : Addr} {ocC_read_long kVC_read_long dcC_read_long pmC_read_long cdC_read_long ctC_read_long : Value} {odC_read_long anC_read_long : Option Addr} {slC_read_long : Array (Option Value)}
    (aC_read_long : PySem.W.findIn K (.ref C) "read_long" = some (some (.ref fC_read_long)))
    (iC_read_long : PySem.W.isFn K (.ref fC_read_long) = true)
    (lC_read_long : K.lookup fC_read_long = some ⟨ocC_read_long, odC_read_long, .func (PySem.W.fnOf "read_long" "Reading.read_long" (C8.fnArgs s_read_long) (C8.fnBody s_read_long) (C8.fnScope s_read_long) .none kVC_read_long dcC_read_long pmC_read_long anC_read_long cdC_read_long ctC_read_long), slC_read_long⟩)
    (cC_read_long : PySem.W.codeIn K cdC_read_long "Reading.read_long" = true)
    (kC_read_long : PySem.W.keepIn K (.ref fC_read_long) = true)
    {fC_read_letters : Addr} {ocC_read_letters kVC_read_letters dcC_read_letters pmC_read_letters cdC_read_letters ctC_read_letters : Value} {odC_read_letters anC_read_letters : Option Addr} {slC_read_letters : Array (Option Value)}
    (aC_read_letters : PySem.W.findIn K (.ref C) "read_letters" = some (some (.ref fC_read_letters)))
    (iC_read_letters : PySem.W.isFn K (.ref fC_read_letters) = true)
    (lC_read_letters : K.lookup fC_read_letters = some ⟨ocC_read_letters, odC_read_letters, .func (PySem.W.fnOf "read_letters" "Reading.read_letters" (C8.fnArgs s_read_letters) (C8.fnBody s_read_letters) (C8.fnScope s_read_letters) .none kVC_read_letters dcC_read_letters pmC_read_letters anC_read_letters cdC_read_letters ctC_read_letters), slC_read_letters⟩)
    (cC_read_letters : PySem.W.codeIn K cdC_read_letters "Reading.read_letters" = true)
    (kC_read_letters : PySem.W.keepIn K (.ref fC_read_letters) = true)
    {fC_give_or_await : Addr} {ocC_give_or_await kVC_give_or_await dcC_give_or_await pmC_give_or_await cdC_give_or_await ctC_give_or_await : Value} {odC_give_or_await anC_give_or_await : Option Addr} {slC_give_or_await : Array (Option Value)}
    (aC_give_or_await : PySem.W.findIn K (.ref C) "give_or_await" = some (some (.ref fC_give_or_await)))
    (iC_give_or_await : PySem.W.isFn K (.ref fC_give_or_await) = true)
    (lC_give_or_await : K.lookup fC_give_or_await = some ⟨ocC_give_or_await, odC_give_or_await, .func (PySem.W.fnOf "give_or_await" "Reading.give_or_await" (C8.fnArgs s_give_or_await) (C8.fnBody s_give_or_await) (C8.fnScope s_give_or_await) .none kVC_give_or_await dcC_give_or_await pmC_give_or_await anC_give_or_await cdC_give_or_await ctC_give_or_await), slC_give_or_await⟩)
    (cC_give_or_await : PySem.W.codeIn K cdC_give_or_await "Reading.give_or_await" = true)
    (kC_give_or_await : PySem.W.keepIn K (.ref fC_give_or_await) = true)
    {fC_give : Addr} {ocC_give kVC_give dcC_give pmC_give cdC_give ctC_give : Value} {odC_give anC_give : Option Addr} {slC_give : Array (Option Value)}
    (aC_give : PySem.W.findIn K (.ref C) "give" = some (some (.ref fC_give)))
    (iC_give : PySem.W.isFn K (.ref fC_give) = true)
    (lC_give : K.lookup fC_give = some ⟨ocC_give, odC_give, .func (PySem.W.fnOf "give" "Reading.give" (C8.fnArgs s_give) (C8.fnBody s_give) (C8.fnScope s_give) .none kVC_give dcC_give pmC_give anC_give cdC_give ctC_give), slC_give⟩)
    (cC_give : PySem.W.codeIn K cdC_give "Reading.give" = true)
    (kC_give : PySem.W.keepIn K (.ref fC_give) = true)
    (pgC : PySem.W.plainGet K C Str.empty = true)
    (hdC : PySem.W.hasDictIn K C = true)
    (poC : PySem.W.plainOver K C = true)
    (saC : PySem.W.findIn K (.ref C) "__setattr__" = some (some (.builtin "object.__setattr__")))
    (mkC : PySem.W.makesIn K C = true)
    (kcC : PySem.W.keepIn K (.ref C) = true)
    (nC_rules : PySem.W.findIn K (.ref C) "rules" = some none)
    (nC_closed : PySem.W.findIn K (.ref C) "closed" = some none)
    (nC_awaited : PySem.W.findIn K (.ref C) "awaited" = some none)
    (nC_refused : PySem.W.findIn K (.ref C) "refused" = some none)
    (nC_shortened : PySem.W.findIn K (.ref C) "shortened" = some none)
    (nC_numbered : PySem.W.findIn K (.ref C) "numbered" = some none)
    (nC_got : PySem.W.findIn K (.ref C) "got" = some none)
    (nC_placed : PySem.W.findIn K (.ref C) "placed" = some none) :
    ∀ base : Heap, K.In base → base.Ns mainGlobals mg → CalG l.prog w K mg base 7 "law" (spLaw09 K) := by
  have F0 : C8.Def K mg "made_of" s_made_of f0 _ := ⟨⟨_, _, _, _, _, _, _, _, _, _, rfl, l0, c0⟩, PySem.W.mg_of X G a0, k0⟩
  have b0 := F0.fn.binds rfl (ps := ["text", "signs"]) fun _ _ _ _ _ _ us hl => match us, hl with | [_, _], _ => rfl
  have F1 : C8.Def K mg "is_word" s_is_word f1 _ := ⟨⟨_, _, _, _, _, _, _, _, _, _, rfl, l1, c1⟩, PySem.W.mg_of X G a1, k1⟩
  have b1 := F1.fn.binds rfl (ps := ["thing"]) fun _ _ _ _ _ _ us hl => match us, hl with | [_], _ => rfl
  have F2 : C8.Def K mg "is_name" s_is_name f2 _ := ⟨⟨_, _, _, _, _, _, _, _, _, _, rfl, l2, c2⟩, PySem.W.mg_of X G a2, k2⟩
  have b2 := F2.fn.binds rfl (ps := ["thing"]) fun _ _ _ _ _ _ us hl => match us, hl with | [_], _ => rfl
  have F3 : C8.Def K mg "is_letter" s_is_letter f3 _ := ⟨⟨_, _, _, _, _, _, _, _, _, _, rfl, l3, c3⟩, PySem.W.mg_of X G a3, k3⟩
  have b3 := F3.fn.binds rfl (ps := ["thing"]) fun _ _ _ _ _ _ us hl => match us, hl with | [_], _ => rfl
  have F4 : C8.Def K mg "is_dashed" s_is_dashed f4 _ := ⟨⟨_, _, _, _, _, _, _, _, _, _, rfl, l4, c4⟩, PySem.W.mg_of X G a4, k4⟩
  have b4 := F4.fn.binds rfl (ps := ["word"]) fun _ _ _ _ _ _ us hl => match us, hl with | [_], _ => rfl
  have F5 : C8.Def K mg "is_number" s_is_number f5 _ := ⟨⟨_, _, _, _, _, _, _, _, _, _, rfl, l5, c5⟩, PySem.W.mg_of X G a5, k5⟩
  have b5 := F5.fn.binds rfl (ps := ["word"]) fun _ _ _ _ _ _ us hl => match us, hl with | [_], _ => rfl
  have F6 : C8.Def K mg "need_line" s_need_line f6 _ := ⟨⟨_, _, _, _, _, _, _, _, _, _, rfl, l6, c6⟩, PySem.W.mg_of X G a6, k6⟩
  have b6 := F6.fn.binds rfl (ps := ["thing"]) fun _ _ _ _ _ _ us hl => match us, hl with | [_], _ => rfl
  have F7 : C8.Def K mg "is_one_of" s_is_one_of f7 _ := ⟨⟨_, _, _, _, _, _, _, _, _, _, rfl, l7, c7⟩, PySem.W.mg_of X G a7, k7⟩
  have b7 := F7.fn.binds rfl (ps := ["thing", "words"]) fun _ _ _ _ _ _ us hl => match us, hl with | [_, _], _ => rfl
  have F8 : C8.Def K mg "is_tuple_of" s_is_tuple_of f8 _ := ⟨⟨_, _, _, _, _, _, _, _, _, _, rfl, l8, c8⟩, PySem.W.mg_of X G a8, k8⟩
  have b8 := F8.fn.binds rfl (ps := ["thing", "count"]) fun _ _ _ _ _ _ us hl => match us, hl with | [_, _], _ => rfl
  have F9 : C8.Def K mg "is_option" s_is_option f9 _ := ⟨⟨_, _, _, _, _, _, _, _, _, _, rfl, l9, c9⟩, PySem.W.mg_of X G a9, k9⟩
  have b9 := F9.fn.binds rfl (ps := ["thing"]) fun _ _ _ _ _ _ us hl => match us, hl with | [_], _ => rfl
  have F10 : C8.Def K mg "is_place" s_is_place f10 _ := ⟨⟨_, _, _, _, _, _, _, _, _, _, rfl, l10, c10⟩, PySem.W.mg_of X G a10, k10⟩
  have b10 := F10.fn.binds rfl (ps := ["thing"]) fun _ _ _ _ _ _ us hl => match us, hl with | [_], _ => rfl
  have F11 : C8.Def K mg "need_options" s_need_options f11 _ := ⟨⟨_, _, _, _, _, _, _, _, _, _, rfl, l11, c11⟩, PySem.W.mg_of X G a11, k11⟩
  have b11 := F11.fn.binds rfl (ps := ["options"]) fun _ _ _ _ _ _ us hl => match us, hl with | [_], _ => rfl
  have F12 : C8.Def K mg "need_places" s_need_places f12 _ := ⟨⟨_, _, _, _, _, _, _, _, _, _, rfl, l12, c12⟩, PySem.W.mg_of X G a12, k12⟩
  have b12 := F12.fn.binds rfl (ps := ["places"]) fun _ _ _ _ _ _ us hl => match us, hl with | [_], _ => rfl
  have F13 : C8.Def K mg "need_modes" s_need_modes f13 _ := ⟨⟨_, _, _, _, _, _, _, _, _, _, rfl, l13, c13⟩, PySem.W.mg_of X G a13, k13⟩
  have b13 := F13.fn.binds rfl (ps := ["modes"]) fun _ _ _ _ _ _ us hl => match us, hl with | [_], _ => rfl
  have F14 : C8.Def K mg "need_grammar" s_need_grammar f14 _ := ⟨⟨_, _, _, _, _, _, _, _, _, _, rfl, l14, c14⟩, PySem.W.mg_of X G a14, k14⟩
  have b14 := F14.fn.binds rfl (ps := ["thing"]) fun _ _ _ _ _ _ us hl => match us, hl with | [_], _ => rfl
  have F15 : C8.Def K mg "reads_numbers" s_reads_numbers f15 _ := ⟨⟨_, _, _, _, _, _, _, _, _, _, rfl, l15, c15⟩, PySem.W.mg_of X G a15, k15⟩
  have b15 := F15.fn.binds rfl (ps := ["grammar"]) fun _ _ _ _ _ _ us hl => match us, hl with | [_], _ => rfl
  have F16 : C8.Def K mg "count_arity" s_count_arity f16 _ := ⟨⟨_, _, _, _, _, _, _, _, _, _, rfl, l16, c16⟩, PySem.W.mg_of X G a16, k16⟩
  have b16 := F16.fn.binds rfl (ps := ["places", "arity"]) fun _ _ _ _ _ _ us hl => match us, hl with | [_, _], _ => rfl
  have F17 : C8.Def K mg "span" s_span f17 _ := ⟨⟨_, _, _, _, _, _, _, _, _, _, rfl, l17, c17⟩, PySem.W.mg_of X G a17, k17⟩
  have b17 := F17.fn.binds rfl (ps := ["places"]) fun _ _ _ _ _ _ us hl => match us, hl with | [_], _ => rfl
  have F18 : C8.Def K mg "read_by" s_read_by f18 _ := ⟨⟨_, _, _, _, _, _, _, _, _, _, rfl, l18, c18⟩, PySem.W.mg_of X G a18, k18⟩
  have b18 := F18.fn.binds rfl (ps := ["rules", "words"]) fun _ _ _ _ _ _ us hl => match us, hl with | [_, _], _ => rfl
  have F19 : C8.Def K mg "lasts" s_lasts f19 _ := ⟨⟨_, _, _, _, _, _, _, _, _, _, rfl, l19, c19⟩, PySem.W.mg_of X G a19, k19⟩
  have b19 := F19.fn.binds rfl (ps := ["grammar", "line"]) fun _ _ _ _ _ _ us hl => match us, hl with | [_, _], _ => rfl
  have F20 : C8.Def K mg "_law_mixed" s_law_mixed f20 _ := ⟨⟨_, _, _, _, _, _, _, _, _, _, rfl, l20, c20⟩, PySem.W.mg_of X G a20, k20⟩
  have b20 := F20.fn.binds rfl (ps := ["cell", "k"]) fun _ _ _ _ _ _ us hl => match us, hl with | [_, _], _ => rfl
  have F21 : C8.Def K mg "_law_begin" s_law_begin f21 _ := ⟨⟨_, _, _, _, _, _, _, _, _, _, rfl, l21, c21⟩, PySem.W.mg_of X G a21, k21⟩
  have b21 := F21.fn.binds rfl (ps := ["script"]) fun _ _ _ _ _ _ us hl => match us, hl with | [_], _ => rfl
  have F22 : C8.Def K mg "_law_draw" s_law_draw f22 _ := ⟨⟨_, _, _, _, _, _, _, _, _, _, rfl, l22, c22⟩, PySem.W.mg_of X G a22, k22⟩
  have b22 := F22.fn.binds rfl (ps := ["state", "many"]) fun _ _ _ _ _ _ us hl => match us, hl with | [_, _], _ => rfl
  have F23 : C8.Def K mg "_law_rows" s_law_rows f23 _ := ⟨⟨_, _, _, _, _, _, _, _, _, _, rfl, l23, c23⟩, PySem.W.mg_of X G a23, k23⟩
  have b23 := F23.fn.binds rfl (ps := ["one", "other", "short", "value"]) fun _ _ _ _ _ _ us hl => match us, hl with | [_, _, _, _], _ => rfl
  have F24 : C8.Def K mg "law" s_law f24 _ := ⟨⟨_, _, _, _, _, _, _, _, _, _, rfl, l24, c24⟩, PySem.W.mg_of X G a24, k24⟩
  have b24 := F24.fn.binds rfl (ps := ["script"]) fun _ _ _ _ _ _ us hl => match us, hl with | [_], _ => rfl
  have FCR_initU : C8.Fun K "__init__" "Rules.__init__" s_initU fCR_initU _ := ⟨_, _, _, _, _, _, _, _, _, _, rfl, lCR_initU, cCR_initU⟩
  have bCR_initU := FCR_initU.binds rfl (ps := ["self", "grammar"]) fun _ _ _ _ _ _ us hl => match us, hl with | [_, _], _ => rfl
  have FCR_tells : C8.Fun K "tells" "Rules.tells" s_tells fCR_tells _ := ⟨_, _, _, _, _, _, _, _, _, _, rfl, lCR_tells, cCR_tells⟩
  have bCR_tells := FCR_tells.binds rfl (ps := ["self", "told"]) fun _ _ _ _ _ _ us hl => match us, hl with | [_, _], _ => rfl
  have MCR_tells : Meth K CR "tells" fCR_tells := ⟨aCR_tells, iCR_tells, kCR_tells⟩
  have FCR_takes_words : C8.Fun K "takes_words" "Rules.takes_words" s_takes_words fCR_takes_words _ := ⟨_, _, _, _, _, _, _, _, _, _, rfl, lCR_takes_words, cCR_takes_words⟩
  have bCR_takes_words := FCR_takes_words.binds rfl (ps := ["self", "count"]) fun _ _ _ _ _ _ us hl => match us, hl with | [_, _], _ => rfl
  have MCR_takes_words : Meth K CR "takes_words" fCR_takes_words := ⟨aCR_takes_words, iCR_takes_words, kCR_takes_words⟩
  have FCR_deals : C8.Fun K "deals" "Rules.deals" s_deals fCR_deals _ := ⟨_, _, _, _, _, _, _, _, _, _, rfl, lCR_deals, cCR_deals⟩
  have bCR_deals := FCR_deals.binds rfl (ps := ["self", "count"]) fun _ _ _ _ _ _ us hl => match us, hl with | [_, _], _ => rfl
  have MCR_deals : Meth K CR "deals" fCR_deals := ⟨aCR_deals, iCR_deals, kCR_deals⟩
  have TCR : RuC K CR := ⟨⟨pgCR, hdCR, poCR, saCR⟩, nCR_kinds, nCR_own_letters, nCR_letters, nCR_places, nCR_short, nCR_mixed, nCR_minus, nCR_fewest, nCR_most⟩
  have FC_initR : C8.Fun K "__init__" "Reading.__init__" s_initR fC_initR _ := ⟨_, _, _, _, _, _, _, _, _, _, rfl, lC_initR, cC_initR⟩
  have bC_initR := FC_initR.binds rfl (ps := ["self", "rules"]) fun _ _ _ _ _ _ us hl => match us, hl with | [_, _], _ => rfl
  have FC_is_accepted : C8.Fun K "is_accepted" "Reading.is_accepted" s_is_accepted fC_is_accepted _ := ⟨_, _, _, _, _, _, _, _, _, _, rfl, lC_is_accepted, cC_is_accepted⟩
  have bC_is_accepted := FC_is_accepted.binds rfl (ps := ["self"]) fun _ _ _ _ _ _ us hl => match us, hl with | [_], _ => rfl
  have MC_is_accepted : Meth K C "is_accepted" fC_is_accepted := ⟨aC_is_accepted, iC_is_accepted, kC_is_accepted⟩
  have FC_is_lasting : C8.Fun K "is_lasting" "Reading.is_lasting" s_is_lasting fC_is_lasting _ := ⟨_, _, _, _, _, _, _, _, _, _, rfl, lC_is_lasting, cC_is_lasting⟩
  have bC_is_lasting := FC_is_lasting.binds rfl (ps := ["self"]) fun _ _ _ _ _ _ us hl => match us, hl with | [_], _ => rfl
  have MC_is_lasting : Meth K C "is_lasting" fC_is_lasting := ⟨aC_is_lasting, iC_is_lasting, kC_is_lasting⟩
  have FC_read_word : C8.Fun K "read_word" "Reading.read_word" s_read_word fC_read_word _ := ⟨_, _, _, _, _, _, _, _, _, _, rfl, lC_read_word, cC_read_word⟩
  have bC_read_word := FC_read_word.binds rfl (ps := ["self", "word"]) fun _ _ _ _ _ _ us hl => match us, hl with | [_, _], _ => rfl
  have MC_read_word : Meth K C "read_word" fC_read_word := ⟨aC_read_word, iC_read_word, kC_read_word⟩
  have FC_read_place_word : C8.Fun K "read_place_word" "Reading.read_place_word" s_read_place_word fC_read_place_word _ := ⟨_, _, _, _, _, _, _, _, _, _, rfl, lC_read_place_word, cC_read_place_word⟩
  have bC_read_place_word := FC_read_place_word.binds rfl (ps := ["self", "word"]) fun _ _ _ _ _ _ us hl => match us, hl with | [_, _], _ => rfl
  have MC_read_place_word : Meth K C "read_place_word" fC_read_place_word := ⟨aC_read_place_word, iC_read_place_word, kC_read_place_word⟩
  have FC_tell : C8.Fun K "tell" "Reading.tell" s_tell fC_tell _ := ⟨_, _, _, _, _, _, _, _, _, _, rfl, lC_tell, cC_tell⟩
  have bC_tell := FC_tell.binds rfl (ps := ["self", "told"]) fun _ _ _ _ _ _ us hl => match us, hl with | [_, _], _ => rfl
  have MC_tell : Meth K C "tell" fC_tell := ⟨aC_tell, iC_tell, kC_tell⟩
  have FC_read_long : C8.Fun K "read_long" "Reading.read_long" s_read_long fC_read_long _ := ⟨_, _, _, _, _, _, _, _, _, _, rfl, lC_read_long, cC_read_long⟩
  have bC_read_long := FC_read_long.binds rfl (ps := ["self", "word"]) fun _ _ _ _ _ _ us hl => match us, hl with | [_, _], _ => rfl
  have MC_read_long : Meth K C "read_long" fC_read_long := ⟨aC_read_long, iC_read_long, kC_read_long⟩
  have FC_read_letters : C8.Fun K "read_letters" "Reading.read_letters" s_read_letters fC_read_letters _ := ⟨_, _, _, _, _, _, _, _, _, _, rfl, lC_read_letters, cC_read_letters⟩
  have bC_read_letters := FC_read_letters.binds rfl (ps := ["self", "word"]) fun _ _ _ _ _ _ us hl => match us, hl with | [_, _], _ => rfl
  have MC_read_letters : Meth K C "read_letters" fC_read_letters := ⟨aC_read_letters, iC_read_letters, kC_read_letters⟩
  have FC_give_or_await : C8.Fun K "give_or_await" "Reading.give_or_await" s_give_or_await fC_give_or_await _ := ⟨_, _, _, _, _, _, _, _, _, _, rfl, lC_give_or_await, cC_give_or_await⟩
  have bC_give_or_await := FC_give_or_await.binds rfl (ps := ["self", "name"]) fun _ _ _ _ _ _ us hl => match us, hl with | [_, _], _ => rfl
  have MC_give_or_await : Meth K C "give_or_await" fC_give_or_await := ⟨aC_give_or_await, iC_give_or_await, kC_give_or_await⟩
  have FC_give : C8.Fun K "give" "Reading.give" s_give fC_give _ := ⟨_, _, _, _, _, _, _, _, _, _, rfl, lC_give, cC_give⟩
  have bC_give := FC_give.binds rfl (ps := ["self", "name", "what"]) fun _ _ _ _ _ _ us hl => match us, hl with | [_, _, _], _ => rfl
  have MC_give : Meth K C "give" fC_give := ⟨aC_give, iC_give, kC_give⟩
  have TC : RdC K C := ⟨⟨pgC, hdC, poC, saC⟩, nC_rules, nC_closed, nC_awaited, nC_refused, nC_shortened, nC_numbered, nC_got, nC_placed⟩
  have B : Blt mg := ⟨PySem.W.mg_none_of X G z_int, PySem.W.mg_none_of X G z_len, PySem.W.mg_none_of X G z_list, PySem.W.mg_none_of X G z_tuple, PySem.W.mg_none_of X G z_range, PySem.W.mg_none_of X G z_enumerate, PySem.W.mg_none_of X G z_isinstance, PySem.W.mg_none_of X G z_all, PySem.W.mg_none_of X G z_any, PySem.W.mg_none_of X G z_max, PySem.W.mg_none_of X G z_repr, PySem.W.mg_none_of X G z_str, PySem.W.mg_none_of X G z_bool⟩
  have TV : CstsV K mg aV aL := ⟨⟨_, PySem.W.mg_of X G g_VALUELESS, rfl⟩, ⟨_, PySem.W.mg_of X G g_LONE, rfl⟩, fun _ => .inr ⟨_, _, _, l_VALUELESS, c_VALUELESS, d_VALUELESS, s_VALUELESS, v_VALUELESS⟩, fun _ => .inr ⟨_, _, _, l_LONE, c_LONE, d_LONE, s_LONE, v_LONE⟩⟩
  have T : Csts K mg aK aA aV aL := ⟨⟨_, PySem.W.mg_of X G g_MOST_SIGNS, r_MOST_SIGNS⟩, ⟨_, PySem.W.mg_of X G g_MOST_WORDS, r_MOST_WORDS⟩, ⟨_, PySem.W.mg_of X G g_LEAST_NAME, r_LEAST_NAME⟩, ⟨_, PySem.W.mg_of X G g_MOST_NAME, r_MOST_NAME⟩, ⟨_, PySem.W.mg_of X G g_MOST_OPTIONS, r_MOST_OPTIONS⟩, ⟨_, PySem.W.mg_of X G g_MOST_PLACES, r_MOST_PLACES⟩, ⟨_, PySem.W.mg_of X G g_FIGURES, r_FIGURES⟩, ⟨_, PySem.W.mg_of X G g_LETTERS, r_LETTERS⟩, ⟨_, PySem.W.mg_of X G g_NAME_SIGNS, r_NAME_SIGNS⟩, ⟨_, PySem.W.mg_of X G g_SIGNS, r_SIGNS⟩, ⟨_, PySem.W.mg_of X G g_KINDS, rfl⟩, ⟨_, PySem.W.mg_of X G g_ARITIES, rfl⟩, ⟨_, PySem.W.mg_of X G g_VALUELESS, rfl⟩, ⟨_, PySem.W.mg_of X G g_LONE, rfl⟩, fun _ => .inr ⟨_, _, _, l_KINDS, c_KINDS, d_KINDS, s_KINDS, v_KINDS⟩, fun _ => .inr ⟨_, _, _, l_ARITIES, c_ARITIES, d_ARITIES, s_ARITIES, v_ARITIES⟩, fun _ => .inr ⟨_, _, _, l_VALUELESS, c_VALUELESS, d_VALUELESS, s_VALUELESS, v_VALUELESS⟩, fun _ => .inr ⟨_, _, _, l_LONE, c_LONE, d_LONE, s_LONE, v_LONE⟩⟩
  intro base _ _
  have C_made_of := ok_made (P := l.prog) (w := w) (base := base) F0 b0 B
  have C_is_word := ok_word (P := l.prog) (w := w) (base := base) F1 b1 B T C_made_of
  have C_is_name := ok_name (P := l.prog) (w := w) (base := base) F2 b2 B T C_made_of
  have C_is_letter := ok_letter (P := l.prog) (w := w) (base := base) F3 b3 B T C_made_of
  have C_is_dashed := ok_dashed (P := l.prog) (w := w) (base := base) F4 b4 B
  have C_is_number := ok_number (P := l.prog) (w := w) (base := base) F5 b5 B T C_made_of C_is_dashed
  have C_is_one_of := ok_oneOf (P := l.prog) (w := w) (base := base) F7 b7 B
  have C_is_tuple_of := ok_tupOf (P := l.prog) (w := w) (base := base) F8 b8 B
  have C_need_line := ok_needLine (P := l.prog) (w := w) (base := base) F6 b6 B T C_is_word
  have C_is_option := ok_option (P := l.prog) (w := w) (base := base) F9 b9 B T C_is_tuple_of C_is_name C_is_letter C_is_one_of
  have C_is_place := ok_place (P := l.prog) (w := w) (base := base) F10 b10 B T C_is_tuple_of C_is_name C_is_one_of
  have C_need_options := ok_needOpts (P := l.prog) (w := w) (base := base) F11 b11 B T C_is_option
  have C_need_places := ok_needPls (P := l.prog) (w := w) (base := base) F12 b12 B T C_is_place
  have C_need_modes := ok_needModes (P := l.prog) (w := w) (base := base) F13 b13 B C_is_tuple_of
  have C_need_grammar := ok_needGr (P := l.prog) (w := w) (base := base) F14 b14 B C_is_tuple_of C_need_options C_need_places C_need_modes
  have C_reads_numbers := ok_readsNum (P := l.prog) (w := w) (base := base) F15 b15 B T
  have C_count_arity := ok_countA (P := l.prog) (w := w) (base := base) F16 b16 B
  have C_span := ok_span (P := l.prog) (w := w) (base := base) F17 b17 B C_count_arity
  have M_tells := ok_tells (P := l.prog) (w := w) (base := base) (mg := mg) TCR MCR_tells FCR_tells bCR_tells B
  have M_takes_words := ok_takes (P := l.prog) (w := w) (base := base) (mg := mg) TCR MCR_takes_words FCR_takes_words bCR_takes_words B
  have M_deals := ok_deals (P := l.prog) (w := w) (base := base) (mg := mg) TCR MCR_deals FCR_deals bCR_deals B M_takes_words
  have C_Rules := ok_initU (P := l.prog) (w := w) (base := base) TCR ⟨mkCR, aCR_initU, iCR_initU, kcCR⟩ (PySem.W.mg_of X G aCR) FCR_initU bCR_initU B C_reads_numbers C_span
  have M_give := ok_give (P := l.prog) (w := w) (base := base) (mg := mg) TCR TC MC_give FC_give bC_give B
  have M_give_or_await := ok_await (P := l.prog) (w := w) (base := base) (mg := mg) TCR TC MC_give_or_await FC_give_or_await bC_give_or_await B TV M_give
  have M_read_place_word := ok_placeW (P := l.prog) (w := w) (base := base) (mg := mg) TCR TC MC_read_place_word FC_read_place_word bC_read_place_word B
  have M_tell := ok_tell (P := l.prog) (w := w) (base := base) (mg := mg) TC MC_tell FC_tell bC_tell B M_tells
  have M_read_long := ok_long (P := l.prog) (w := w) (base := base) (mg := mg) TCR TC MC_read_long FC_read_long bC_read_long B TV M_tell M_give M_give_or_await
  have M_read_letters := ok_letters (P := l.prog) (w := w) (base := base) (mg := mg) TCR TC MC_read_letters FC_read_letters bC_read_letters B TV M_give M_give_or_await
  have M_read_word := ok_wordM (P := l.prog) (w := w) (base := base) (mg := mg) TCR TC MC_read_word FC_read_word bC_read_word B C_is_dashed C_is_number M_give M_read_place_word M_read_long M_read_letters
  have C_Reading := ok_initR (P := l.prog) (w := w) (base := base) (CR := CR) TC ⟨mkC, aC_initR, iC_initR, kcC⟩ (PySem.W.mg_of X G aC) FC_initR bC_initR B
  have M_is_accepted := ok_isAcc (P := l.prog) (w := w) (base := base) (mg := mg) TC MC_is_accepted FC_is_accepted bC_is_accepted B M_deals
  have M_is_lasting := ok_isLast (P := l.prog) (w := w) (base := base) (mg := mg) (CR := CR) TC MC_is_lasting FC_is_lasting bC_is_lasting B
  have C_read_by := ok_readBy (P := l.prog) (w := w) (base := base) TC F18 b18 B C_Reading M_read_word
  have C_lasts := ok_lasts (P := l.prog) (w := w) (base := base) TC F19 b19 B C_need_grammar C_need_line C_Rules C_read_by M_is_accepted M_is_lasting
  have C__law_mixed := ok_mixed (P := l.prog) (w := w) (base := base) F20 b20 B
  have C__law_begin := ok_begin (P := l.prog) (w := w) (base := base) F21 b21 B
  have C__law_draw := ok_draw (P := l.prog) (w := w) (base := base) F22 b22 B C__law_mixed
  have C__law_rows := ok_rows (P := l.prog) (w := w) (base := base) F23 b23 B
  exact ok_law F24 b24 B C__law_begin C__law_draw C__law_rows C_lasts
end K9

open PySem PySem.W PyProof.Rows
set_option Elab.async false
set_option maxRecDepth 100000 in
set_option maxHeartbeats 0 in
theorem PySem.Challenge.cw_keptlines_k09_lasting_by_hand_holds : PySem.Challenge.rw_keptlines_k09_lasting_by_hand.Holds := by
  w_on; o_law; k_head; (case hw => w_witness2)
  k_fill
  refine KL.walkg (l := PySem.Challenge.rw_keptlines_k09_lasting_by_hand) (n := 63) (k := 7) (sp := KL.spLaw09) rfl (by decide) rfl rfl ⟨rfl, by decide, by decide⟩ (fun w h Y => PySem.W.kIn_of Y) ?F ?W
  case W =>
    exact fun K H a ns hl hs => ⟨a, ns, rfl, hs, hl, fun _ => rfl⟩
  case F =>
    intro w mg h KX G
    refine' K9.all_of rfl KX G ?a0 ?l0 ?c0 ?k0 ?a1 ?l1 ?c1 ?k1 ?a2 ?l2 ?c2 ?k2 ?a3 ?l3 ?c3 ?k3 ?a4 ?l4 ?c4 ?k4 ?a5 ?l5 ?c5 ?k5 ?a6 ?l6 ?c6 ?k6 ?a7 ?l7 ?c7 ?k7 ?a8 ?l8 ?c8 ?k8 ?a9 ?l9 ?c9 ?k9 ?a10 ?l10 ?c10 ?k10 ?a11 ?l11 ?c11 ?k11 ?a12 ?l12 ?c12 ?k12 ?a13 ?l13 ?c13 ?k13 ?a14 ?l14 ?c14 ?k14 ?a15 ?l15 ?c15 ?k15 ?a16 ?l16 ?c16 ?k16 ?a17 ?l17 ?c17 ?k17 ?a18 ?l18 ?c18 ?k18 ?a19 ?l19 ?c19 ?k19 ?a20 ?l20 ?c20 ?k20 ?a21 ?l21 ?c21 ?k21 ?a22 ?l22 ?c22 ?k22 ?a23 ?l23 ?c23 ?k23 ?a24 ?l24 ?c24 ?k24 ?z_int ?z_len ?z_list ?z_tuple ?z_range ?z_enumerate ?z_isinstance ?z_all ?z_any ?z_max ?z_repr ?z_str ?z_bool ?g_MOST_SIGNS ?r_MOST_SIGNS ?g_MOST_WORDS ?r_MOST_WORDS ?g_LEAST_NAME ?r_LEAST_NAME ?g_MOST_NAME ?r_MOST_NAME ?g_MOST_OPTIONS ?r_MOST_OPTIONS ?g_MOST_PLACES ?r_MOST_PLACES ?g_FIGURES ?r_FIGURES ?g_LETTERS ?r_LETTERS ?g_NAME_SIGNS ?r_NAME_SIGNS ?g_SIGNS ?r_SIGNS ?g_KINDS ?l_KINDS ?c_KINDS ?d_KINDS ?s_KINDS ?v_KINDS ?g_ARITIES ?l_ARITIES ?c_ARITIES ?d_ARITIES ?s_ARITIES ?v_ARITIES ?g_VALUELESS ?l_VALUELESS ?c_VALUELESS ?d_VALUELESS ?s_VALUELESS ?v_VALUELESS ?g_LONE ?l_LONE ?c_LONE ?d_LONE ?s_LONE ?v_LONE ?aCR ?aCR_initU ?iCR_initU ?lCR_initU ?cCR_initU ?kCR_initU ?aCR_tells ?iCR_tells ?lCR_tells ?cCR_tells ?kCR_tells ?aCR_takes_words ?iCR_takes_words ?lCR_takes_words ?cCR_takes_words ?kCR_takes_words ?aCR_deals ?iCR_deals ?lCR_deals ?cCR_deals ?kCR_deals ?pgCR ?hdCR ?poCR ?saCR ?mkCR ?kcCR ?nCR_kinds ?nCR_own_letters ?nCR_letters ?nCR_places ?nCR_short ?nCR_mixed ?nCR_minus ?nCR_fewest ?nCR_most ?aC ?aC_initR ?iC_initR ?lC_initR ?cC_initR ?kC_initR ?aC_is_accepted ?iC_is_accepted ?lC_is_accepted ?cC_is_accepted ?kC_is_accepted ?aC_is_lasting ?iC_is_lasting ?lC_is_lasting ?cC_is_lasting ?kC_is_lasting ?aC_read_word ?iC_read_word ?lC_read_word ?cC_read_word ?kC_read_word ?aC_read_place_word ?iC_read_place_word ?lC_read_place_word ?cC_read_place_word ?kC_read_place_word ?aC_tell ?iC_tell ?lC_tell ?cC_tell ?kC_tell ?aC_read_long ?iC_read_long ?lC_read_long ?cC_read_long ?kC_read_long ?aC_read_letters ?iC_read_letters ?lC_read_letters ?cC_read_letters ?kC_read_letters ?aC_give_or_await ?iC_give_or_await ?lC_give_or_await ?cC_give_or_await ?kC_give_or_await ?aC_give ?iC_give ?lC_give ?cC_give ?kC_give ?pgC ?hdC ?poC ?saC ?mkC ?kcC ?nC_rules ?nC_closed ?nC_awaited ?nC_refused ?nC_shortened ?nC_numbered ?nC_got ?nC_placed
    (case a0 => k_is); (case l0 => k_is); (case c0 => k_is); (case k0 => k_is); (case a1 => k_is); (case l1 => k_is)
    (case c1 => k_is); (case k1 => k_is); (case a2 => k_is); (case l2 => k_is); (case c2 => k_is); (case k2 => k_is)
    (case a3 => k_is); (case l3 => k_is); (case c3 => k_is); (case k3 => k_is); (case a4 => k_is); (case l4 => k_is)
    (case c4 => k_is); (case k4 => k_is); (case a5 => k_is); (case l5 => k_is); (case c5 => k_is); (case k5 => k_is)
    (case a6 => k_is); (case l6 => k_is); (case c6 => k_is); (case k6 => k_is); (case a7 => k_is); (case l7 => k_is)
    (case c7 => k_is); (case k7 => k_is); (case a8 => k_is); (case l8 => k_is); (case c8 => k_is); (case k8 => k_is)
    (case a9 => k_is); (case l9 => k_is); (case c9 => k_is); (case k9 => k_is); (case a10 => k_is); (case l10 => k_is)
    (case c10 => k_is); (case k10 => k_is); (case a11 => k_is); (case l11 => k_is); (case c11 => k_is); (case k11 => k_is)
    (case a12 => k_is); (case l12 => k_is); (case c12 => k_is); (case k12 => k_is); (case a13 => k_is); (case l13 => k_is)
    (case c13 => k_is); (case k13 => k_is); (case a14 => k_is); (case l14 => k_is); (case c14 => k_is); (case k14 => k_is)
    (case a15 => k_is); (case l15 => k_is); (case c15 => k_is); (case k15 => k_is); (case a16 => k_is); (case l16 => k_is)
    (case c16 => k_is); (case k16 => k_is); (case a17 => k_is); (case l17 => k_is); (case c17 => k_is); (case k17 => k_is)
    (case a18 => k_is); (case l18 => k_is); (case c18 => k_is); (case k18 => k_is); (case a19 => k_is); (case l19 => k_is)
    (case c19 => k_is); (case k19 => k_is); (case a20 => k_is); (case l20 => k_is); (case c20 => k_is); (case k20 => k_is)
    (case a21 => k_is); (case l21 => k_is); (case c21 => k_is); (case k21 => k_is); (case a22 => k_is); (case l22 => k_is)
    (case c22 => k_is); (case k22 => k_is); (case a23 => k_is); (case l23 => k_is); (case c23 => k_is); (case k23 => k_is)
    (case a24 => k_is); (case l24 => k_is); (case c24 => k_is); (case k24 => k_is); (case z_int => k_is); (case z_len => k_is)
    (case z_list => k_is); (case z_tuple => k_is); (case z_range => k_is); (case z_enumerate => k_is); (case z_isinstance => k_is); (case z_all => k_is)
    (case z_any => k_is); (case z_max => k_is); (case z_repr => k_is); (case z_str => k_is); (case z_bool => k_is); (case g_MOST_SIGNS => k_is)
    (case r_MOST_SIGNS => exact ⟨_, rfl⟩); (case g_MOST_WORDS => k_is); (case r_MOST_WORDS => exact ⟨_, rfl⟩); (case g_LEAST_NAME => k_is); (case r_LEAST_NAME => exact ⟨_, rfl⟩); (case g_MOST_NAME => k_is)
    (case r_MOST_NAME => exact ⟨_, rfl⟩); (case g_MOST_OPTIONS => k_is); (case r_MOST_OPTIONS => exact ⟨_, rfl⟩); (case g_MOST_PLACES => k_is); (case r_MOST_PLACES => exact ⟨_, rfl⟩); (case g_FIGURES => k_is)
    (case r_FIGURES => exact ⟨_, rfl⟩); (case g_LETTERS => k_is); (case r_LETTERS => exact ⟨_, rfl⟩); (case g_NAME_SIGNS => k_is); (case r_NAME_SIGNS => exact ⟨_, rfl⟩); (case g_SIGNS => k_is)
    (case r_SIGNS => exact ⟨_, rfl⟩); (case g_KINDS => k_is); (case l_KINDS => k_is); (case c_KINDS => rfl); (case d_KINDS => rfl); (case s_KINDS => decide +kernel)
    (case v_KINDS => exact .cons ⟨_, rfl⟩ (.cons ⟨_, rfl⟩ (.cons ⟨_, rfl⟩ (.cons ⟨_, rfl⟩ (.cons ⟨_, rfl⟩ (.cons ⟨_, rfl⟩ (.nil))))))); (case g_ARITIES => k_is); (case l_ARITIES => k_is); (case c_ARITIES => rfl); (case d_ARITIES => rfl); (case s_ARITIES => decide +kernel)
    (case v_ARITIES => exact .cons ⟨_, rfl⟩ (.cons ⟨_, rfl⟩ (.cons ⟨_, rfl⟩ (.nil)))); (case g_VALUELESS => k_is); (case l_VALUELESS => k_is); (case c_VALUELESS => rfl); (case d_VALUELESS => rfl); (case s_VALUELESS => decide +kernel)
    (case v_VALUELESS => exact .cons ⟨_, rfl⟩ (.cons ⟨_, rfl⟩ (.nil))); (case g_LONE => k_is); (case l_LONE => k_is); (case c_LONE => rfl); (case d_LONE => rfl); (case s_LONE => decide +kernel)
    (case v_LONE => exact .cons ⟨_, rfl⟩ (.cons ⟨_, rfl⟩ (.cons ⟨_, rfl⟩ (.nil)))); (case aCR => k_is); (case aCR_initU => k_is); (case iCR_initU => k_is); (case lCR_initU => k_is); (case cCR_initU => k_is)
    (case kCR_initU => k_is); (case aCR_tells => k_is); (case iCR_tells => k_is); (case lCR_tells => k_is); (case cCR_tells => k_is); (case kCR_tells => k_is)
    (case aCR_takes_words => k_is); (case iCR_takes_words => k_is); (case lCR_takes_words => k_is); (case cCR_takes_words => k_is); (case kCR_takes_words => k_is); (case aCR_deals => k_is)
    (case iCR_deals => k_is); (case lCR_deals => k_is); (case cCR_deals => k_is); (case kCR_deals => k_is); (case pgCR => k_is); (case hdCR => k_is)
    (case poCR => k_is); (case saCR => k_is); (case mkCR => k_is); (case kcCR => k_is); (case nCR_kinds => k_is); (case nCR_own_letters => k_is)
    (case nCR_letters => k_is); (case nCR_places => k_is); (case nCR_short => k_is); (case nCR_mixed => k_is); (case nCR_minus => k_is); (case nCR_fewest => k_is)
    (case nCR_most => k_is); (case aC => k_is); (case aC_initR => k_is); (case iC_initR => k_is); (case lC_initR => k_is); (case cC_initR => k_is)
    (case kC_initR => k_is); (case aC_is_accepted => k_is); (case iC_is_accepted => k_is); (case lC_is_accepted => k_is); (case cC_is_accepted => k_is); (case kC_is_accepted => k_is)
    (case aC_is_lasting => k_is); (case iC_is_lasting => k_is); (case lC_is_lasting => k_is); (case cC_is_lasting => k_is); (case kC_is_lasting => k_is); (case aC_read_word => k_is)
    (case iC_read_word => k_is); (case lC_read_word => k_is); (case cC_read_word => k_is); (case kC_read_word => k_is); (case aC_read_place_word => k_is); (case iC_read_place_word => k_is)
    (case lC_read_place_word => k_is); (case cC_read_place_word => k_is); (case kC_read_place_word => k_is); (case aC_tell => k_is); (case iC_tell => k_is); (case lC_tell => k_is)
    (case cC_tell => k_is); (case kC_tell => k_is); (case aC_read_long => k_is); (case iC_read_long => k_is); (case lC_read_long => k_is); (case cC_read_long => k_is)
    (case kC_read_long => k_is); (case aC_read_letters => k_is); (case iC_read_letters => k_is); (case lC_read_letters => k_is); (case cC_read_letters => k_is); (case kC_read_letters => k_is)
    (case aC_give_or_await => k_is); (case iC_give_or_await => k_is); (case lC_give_or_await => k_is); (case cC_give_or_await => k_is); (case kC_give_or_await => k_is); (case aC_give => k_is)
    (case iC_give => k_is); (case lC_give => k_is); (case cC_give => k_is); (case kC_give => k_is); (case pgC => k_is); (case hdC => k_is)
    (case poC => k_is); (case saC => k_is); (case mkC => k_is); (case kcC => k_is); (case nC_rules => k_is); (case nC_closed => k_is)
    (case nC_awaited => k_is); (case nC_refused => k_is); (case nC_shortened => k_is); (case nC_numbered => k_is); (case nC_got => k_is); (case nC_placed => k_is)
