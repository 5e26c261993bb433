import PyProof.Rows.All
import Wide.All
import OpenK.AllK
import Wide.FinOn
import HandS.ForMost
import HandS.Codes
import HandS.Evl
import HandS.DictComp
import HandS.SetKeys
import HandS.TupAny
import HandS.TupMul
import HandS.IsInst
import HandS.Flow
import HandS.Lambda
import PyProof.ReprRoads
import HandS.Walk
import HandS.Style
import HandS.RaiseMore
import PySem.Challenge.RW_keptlines_k09_lasting_by_hand
set_option Elab.async false
set_option maxRecDepth 100000
set_option maxHeartbeats 4000000
/-! Calls that know that nothing is being shown (repr), the law's own call, repr of data. -/
namespace KL
open PySem PySem.Spec PyProof.Rows L2 SX
/-- a def of the module that is called while no repr is under way -/
structure CalG (P : Program) (w : World) (K : PySem.W.Frag) (mg : Str → Option Value) (base : Heap) (k : Nat) (x : Str) (sp : Sp) : Prop where
  ex : ∃ (f : Addr) (fd : FuncData) (ps : List Str), (∀ vs H Q E, sp vs H Q E → vs.length = ps.length) ∧
    (∀ (A : Around) (outer : List Env) (s : Shared) (H : Hp) (args : Args) (us : List Value) (vs : List V) (Q : VK) (E : XK), A.guards = some [] → Room k A →
      Env0 P w K mg base A outer s H → BindsTo s fd args (ps.zip us) → Vals vs us → sp vs H Q E → codeAny (model P w) A (.call (.ref f) args) (CR C8.CX0 outer P w H s Q E) s) ∧
    mg x = some (.ref f) ∧ PySem.W.keepIn K (.ref f) = true ∧ Binds K fd ps []
section
variable {P : Program} {w : World} {K : PySem.W.Frag} {mg : Str → Option Value} {base : Heap}
theorem calg {x : Str} {st : Stmt} {f : Addr} {fd : FuncData} {N ps : List Str} {k : Nat} {sp : Sp} (F : C8.Def K mg x st f fd) (b : Binds K fd ps []) (S : FnScope N ps (C8.fnScope st))
    (lens : ∀ vs H Q E, sp vs H Q E → vs.length = ps.length)
    (body : ∀ (cdv : Value) (A : Around) (outer : List Env) (s : Shared) (H : Hp) (vs : List V) (Q : VK) (E : XK), A.guards = some [] → Room k (A.deeper (envOfC x (C8.fnScope st) s.heap.objs.size f cdv)) → sp vs H Q E →
      ∃ t, PSs (cxOf C8.CX0 P w K mg base N x (C8.fnScope st) f cdv A outer s H E).nox (C8.fnBody st) t ∧ t { nx := fun _ H' => Q .non H', rt := Q } (start N vs) H) :
    CalG P w K mg base (k + 1) x sp := by
  obtain ⟨oc, od, dV, kV, doc, pm, an, cdv, ct, osl, efd, hlk, hcd⟩ := F.fn.ex
  subst efd
  refine ⟨f, _, ps, lens, ?_, F.mgf, F.kp, b⟩
  intro A outer s H args us vs Q E gd room e0 bd rel want
  refine LamX.run_ofS (N := N) hlk hcd S room e0 bd rel (lens _ _ _ _ want) fun room' => ?_
  obtain ⟨t, ht, hq⟩ := body cdv A outer s H vs Q E gd room' want
  exact ⟨t, ht.nox, hq⟩
end
section
variable {X : Cx} {k j : Nat} {x : Str} {sp : Sp} {p pos : Pos} {e : Expr} {es : List Expr} {t : TA}
theorem pe_g (c : CalG X.prog X.w X.K X.mg X.base k x sp) (gd : X.A.guards = some []) (hr : Room j X.A) (hk : k ≤ j) (hg : Gl X x) (ha : PA X (e :: es) t)
    (ndb : (x == ("__debug__" : Str)) = false := by decide) (he : starEach (e :: es) X.env = (false, eval e X.env) :: starEach es X.env := by rfl) (hpl : (backTo pos (starEach es X.env)).any (·.1) = false := by rfl) :
    PE X (.Call (.Name x p) (e :: es) [] pos) (tCall sp [] C8.E0 t) := by
  obtain ⟨f, fd, ps, hlen, run, hm, kp, b⟩ := c.ex
  refine ⟨fun pins s σ H Q inv want => ?_⟩
  refine wpAny_Call_Name_kw (ld_glob inv hg hm ?_ ndb)
  refine PySem.W.callWith_K (h₀ := X.base) inv.ok.mod.kin kp (thn (ha.run pos pins s σ H _ inv want) fun us s1 ⟨vs, H1, inv1, rel, q⟩ => ⟨inv1.kIn, ?_⟩) he hpl
  have q1 : sp vs H1 Q C8.E0 := by
    have z : sp (vs ++ []) H1 Q C8.E0 := q
    rwa [List.append_nil] at z
  have ln : us.length = ps.length := by rw [← rel.length]; exact hlen _ _ _ _ q1
  have bd := b s1 us inv1.kIn (by rw [List.append_nil]; exact ln)
  rw [List.append_nil] at bd
  refine wpAny_call (codeAny_mono (run X.A X.stack s1 H1 ⟨us, []⟩ us vs Q C8.E0 gd (hr.mono hk) inv1.env0 bd rel q1) fun r s' got => ?_)
  cases r with
  | error ex => exact (show False from got).elim
  | ok fl => cases fl with
    | ret u => exact inv1.after got
    | next => exact (show False from got).elim
    | brk => exact (show False from got).elim
    | cont => exact (show False from got).elim
end
/-! ### the law's call -/
section
variable {P : Program} {w : World} {K : PySem.W.Frag} {mg mb : Str → Option Value} {k : Nat} {sp : Sp} {fa a : Addr} {s1 : Shared} {vs : List Value} {ns : List Int}
/-- what may be tracked at the start: the script, locked -/
theorem lawg (KX : K.In s1.heap) (hns : s1.heap.Ns mainGlobals mg) (hb : s1.heap.Ns builtinsNs mb) (hbb : ∀ x : Str, x ≠ "__name__" → mb x = bootBuiltins x) (lim : s1.heap.NoLimit) (gens : s1.gens = #[])
    (ha : s1.heap.get? a = some { cls := .type "list", data := .seq vs.toArray }) (hi : IntsAre vs ns) (hl : ns.length ≤ sizeLine) (room : Room k callerA) (hfa : mg "law" = some (.ref fa))
    (F : ∀ base : Heap, K.In base → base.Ns mainGlobals mg → CalG P w K mg base k "law" sp)
    (want : ∀ H : Hp, SqL K H a (ns.map V.int) → sp [.ref a] H (fun v _ => v = .bl true) C8.E0) :
    codeAny (model P w) callerA (.call (.ref fa) ⟨[.ref a], []⟩) (fun r s' => r = .ok (.ret (.bool true)) ∧ OldK s1.heap s'.heap ∧ s'.os = s1.os ∧ AllBare s'.gens) s1 := by
  have rel := vals_ints hi
  have go : ∀ H : Hp, (∀ b, H b = none ∨ (b = a ∧ ∃ o xs, H b = some (.frz o (.lst xs)))) → SqL K H a (ns.map V.int) → HOk P w H s1.heap → (H a ≠ none → K.lookup a = none) →
      codeAny (model P w) callerA (.call (.ref fa) ⟨[.ref a], []⟩) (fun r s' => r = .ok (.ret (.bool true)) ∧ OldK s1.heap s'.heap ∧ s'.os = s1.os ∧ AllBare s'.gens) s1 := by
    intro H only sq hok apart
    have alone : ∀ b u, H b = some u → b = a := fun b u q => by
      rcases only b with z | ⟨z, _⟩
      · rw [z] at q; cases q
      · exact z
    have dictFree : ∀ {b : Addr} {o : Obj} {es : Array DictEntry} {ep : Nat}, s1.heap.get? b = some o → o.data = .dict es ep → H b = none := by
      intro b o es ep g d
      cases q : H b with
      | none => rfl
      | some u =>
        have z := alone b u q
        subst z
        rw [ha] at g
        cases g
        exact absurd d (by intro z; cases z)
    have nsOf : ∀ {b : Addr} {m : Str → Option Value}, s1.heap.Ns b m → (hidT s1.heap H).Ns b m := fun {b m} ⟨o, es, ep, g, d, r⟩ => ⟨o, es, ep, hidT_get g (dictFree g d), d, r⟩
    have kin : K.In (hidT s1.heap H) := by
      intro b o look
      refine hidT_get (KX b o look) ?_
      cases q : H b with
      | none => rfl
      | some u =>
        have z := alone b u q
        subst z
        rw [apart (by rw [q]; simp)] at look
        cases look
    have e0 : Env0 P w K mg (hidT s1.heap H) callerA [] s1 H :=
      { frames := rfl
        mod := ⟨kin, nsOf hns, ⟨mb, nsOf hb, hbb⟩, by obtain ⟨mc, y1, y2⟩ := lim; exact ⟨mc, nsOf y1, y2⟩⟩
        bs := fun b o g => of_hidT g
        bsz := Nat.le_of_eq (hidT_size _ _)
        funs := trivial
        frf := fun b z => nomatch (show b ∈ ([] : List Addr) from z)
        hok := hok
        bare := .of_eq gens }
    obtain ⟨f, fd, ps, hlen, run, hm, kp, b⟩ := (F _ kin (nsOf hns)).ex
    rw [hfa] at hm
    cases hm
    have hw := want H sq
    have one : ps.length = 1 := (hlen _ _ _ _ hw).symm
    obtain ⟨p0, rfl⟩ : ∃ p0, ps = [p0] := by
      match ps, one with
      | [p0], _ => exact ⟨p0, rfl⟩
    have bd := b s1 [.ref a] KX rfl
    refine codeAny_mono (run callerA [] s1 H ⟨[.ref a], []⟩ [.ref a] [.ref a] _ _ rfl room e0 bd (.cons rfl .nil) hw) fun r s' got => ?_
    cases r with
    | error e => exact (show False from got).elim
    | ok fl => cases fl with
      | next => exact (show False from got).elim
      | brk => exact (show False from got).elim
      | cont => exact (show False from got).elim
      | ret u =>
        obtain ⟨v, H', os, bare, un, hok', rv, ev⟩ := got
        have ev : v = .bl true := ev
        subst ev
        cases (show u = Value.bool true from rv)
        refine ⟨rfl, OldK.of_keep fun b o g => ?_, os, bare⟩
        rcases only b with z | ⟨_, ob, xs, z⟩
        · exact un.keep b o g z (fun q => nomatch (show b ∈ ([] : List Addr) from q)) (fun q => nomatch q)
        · obtain ⟨g1, _⟩ := hok b _ z
          obtain ⟨g2, _⟩ := hok' b _ (un.frzs b ob _ z)
          rw [g] at g1
          cases g1
          exact g2
  cases hk : K.lookup a with
  | some o =>
    have g := KX a o hk
    rw [ha] at g
    cases g
    refine go (fun _ => none) (fun _ => .inl rfl) (.inr ⟨_, vs.toArray, _, hk, rfl, rfl, rfl, ?_, by simpa using rel⟩) (fun b u z => nomatch z) fun z => absurd rfl z
    rw [List.size_toArray]
    rw [hi.length]
    exact hl
  | none =>
    refine go (fun b => if b = a then some (.frz { cls := .type "list", data := .seq vs.toArray } (.lst (ns.map V.int))) else none) (fun b => ?_) (.inl (.inr ⟨_, if_pos rfl⟩)) (fun b u z => ?_) fun _ => hk
    · by_cases eb : b = a
      · exact .inr ⟨eb, _, _, if_pos eb⟩
      · exact .inl (if_neg eb)
    · by_cases eb : b = a
      · have z1 := (if_pos eb).symm.trans z
        cases z1
        subst eb
        exact ⟨ha, by rw [List.length_map]; exact hl, vs, _, rel, ha⟩
      · have z1 := (if_neg eb).symm.trans z
        cases z1
end
/-- what k_head leaves, from the law's promise -/
theorem walkg {l : PySem.W.OpenLaw} {n k : Nat} {q : Program} {loose : List Str} {XP : (Str → Option Value) → Heap → Prop} {YP : World → Heap → Prop} {d : DefRec} {K : Params → PySem.W.Frag} {sp : PySem.W.Frag → Sp}
    (hn : l.most = some n) (hn2 : n ≤ sizeLine) (hdf : d.params.defaults = []) (hname : d.name = ("law" : Str)) (room : Room k callerA) (hY : ∀ (w : World) (h : Heap), YP w h → (K w.params).In h)
    (F : ∀ (w : World) (mg : Str → Option Value) (h : Heap), (K w.params).In h → h.Ns mainGlobals mg → ∀ base : Heap, (K w.params).In base → base.Ns mainGlobals mg → CalG l.prog w (K w.params) mg base k "law" (sp (K w.params)))
    (want : ∀ (K : PySem.W.Frag) (H : Hp) (a : Addr) (ns : List Int), ns.length ≤ n → SqL K H a (ns.map V.int) → sp K [.ref a] H (fun v _ => v = .bl true) C8.E0) :
    PySem.W.WalkO q loose XP YP l.row.toRowW d [] (fun g us => PySem.call g us) := by
  refine Att.attach_call hn hdf ?_
  intro w s0 s1 mg mb fa o pm cd doc a vs ns G Y ho hd hcd hmg hobj hints hlen hgen
  have kin := hY w _ Y
  rw [hname] at hmg
  exact lawg kin G.T.g G.T.b G.T.builtins G.T.nolimit hgen hobj hints (Nat.le_trans hlen hn2) room hmg (F w mg _ kin G.T.g) fun H sq => want _ H a ns hlen sq
/-! ### repr of data -/
section
variable {X : Cx}
def rRep (K : PySem.W.Frag) : List V → Hp → VK → Prop := fun xs H Q => ∃ (a : Addr) (d : PyData), xs = [.ref a] ∧ Dp K H (.ref a) d ∧ d.showable = true ∧ d.depth ≤ 60 ∧ d.hasDict = false ∧ d.shown.length ≤ sizeLine ∧ Q (.str d.shown) H
theorem call_rep {k : Nat} (gd : X.A.guards = some []) (hr : Room k X.A) : CallR X (.builtin "repr") (rRep X.K) := by
  intro pins s σ H xs us Q inv rel h
  obtain ⟨a, d, rfl, dp, hs, hd, nd, hz, q⟩ := h
  obtain ⟨u, rfl, ru⟩ := vals1 rel
  obtain ⟨as, rd⟩ := Dp.reads inv d _ u dp ru
  have eu : u = Value.ref a := ru
  cases eu
  have un := hr.un
  exact repr_of_reads' rd hs (fun z => absurd z (by rw [nd]; simp)) gd (by omega) (fun _ _ z => z) (fun h' u tk kp => ⟨.str d.shown, H, inv.kept kp, ⟨u, rfl⟩, q⟩) hz
end
end KL

set_option Elab.async false
set_option maxRecDepth 100000
set_option maxHeartbeats 4000000
/-! Promises of the law's own drawing. -/
namespace KL
open PySem PySem.Spec PyProof.Rows L2 SX Evl
/-- the builtins' names are not the module's -/
structure Blt (mg : Str → Option Value) : Prop where
  int_ : mg "int" = none
  len_ : mg "len" = none
  list_ : mg "list" = none
  tuple_ : mg "tuple" = none
  range_ : mg "range" = none
  enumerate_ : mg "enumerate" = none
  isinstance_ : mg "isinstance" = none
  all_ : mg "all" = none
  any_ : mg "any" = none
  max_ : mg "max" = none
  repr_ : mg "repr" = none
  str_ : mg "str" = none
  bool_ : mg "bool" = none
def spMixed : Sp := fun vs H Q _ => ∃ c k : Int, vs = [.int c, .int k] ∧ 0 ≤ k ∧ k < 100000000 ∧ ∀ (r : Int) (H' : Hp), 0 ≤ r → r < 2147483629 → Ex H H' → Q (.int r) H'
/-- the law's state: its cells, what is left of them, how many draws there were -/
abbrev stK (dC dL : Addr) (n : Int) : List (Key × V) := [(Sum.inr "cells", .ref dC), (Sum.inr "lefts", .ref dL), (Sum.inr "at", .int n), (Sum.inr "room", .int 0)]
abbrev stO (dC dL : Addr) (n : Int) : HO := .dK (stK dC dL n)
structure StAt (H : Hp) (st dL : Addr) (n : Int) : Prop where
  ex : ∃ (dC : Addr) (cs ls : List Int), H st = some (stO dC dL n) ∧ H dC = some (.lst (cs.map V.int)) ∧ H dL = some (.lst (ls.map V.int)) ∧ dC ≠ dL ∧ ls.length = cs.length ∧ 0 < cs.length ∧ cs.length ≤ 100
  n0 : 0 ≤ n
/-- only the state has changed -/
def Chg (st dL : Addr) (H H' : Hp) : Prop := ∀ b o, H b = some o → b ≠ st → b ≠ dL → H' b = some o
def spBegin (K : PySem.W.Frag) : Sp := fun vs H Q _ => ∃ (a : Addr) (ns : List Int), vs = [.ref a] ∧ SqL K H a (ns.map V.int) ∧ ns.length ≤ 63 ∧ ∀ (st dL : Addr) (H' : Hp), StAt H' st dL 0 → Ex H H' → H st = none → H dL = none → Q (.ref st) H'
def spDraw : Sp := fun vs H Q _ => ∃ (st dL : Addr) (n m : Int), vs = [.ref st, .int m] ∧ StAt H st dL n ∧ n < 1000000 ∧ 0 < m ∧ m < 1000000 ∧
  ∀ (r : Int) (H' : Hp), 0 ≤ r → r < m → StAt H' st dL (n + 1) → Chg st dL H H' → Q (.int r) H'
theorem valV_cons {κ : Type} [DecidableEq κ] {k' k : κ} {v : V} {r : List (κ × V)} : valV ((k', v) :: r) k = if k' = k then some v else valV r k := by
  unfold valV
  rw [List.find?_cons]
  by_cases h : k' = k
  · rw [if_pos h]
    simp [h]
  · rw [if_neg h]
    simp [h]
theorem putK_cons {κ : Type} [DecidableEq κ] {k' k : κ} {v' v : V} {r : List (κ × V)} (h : ¬ k' = k) (hr : (r.any fun kv => decide (kv.1 = k)) = true) : putK ((k', v') :: r) k v = (k', v') :: putK r k v := by
  unfold putK
  rw [List.any_cons, hr, Bool.or_true, if_pos rfl, if_pos rfl, List.map_cons, if_neg h]
theorem st_cells (dC dL : Addr) (n : Int) : valV (stK dC dL n) (Sum.inr "cells" : Key) = some (.ref dC) := by
  rw [valV_cons, if_pos rfl]
theorem st_lefts (dC dL : Addr) (n : Int) : valV (stK dC dL n) (Sum.inr "lefts" : Key) = some (.ref dL) := by
  rw [valV_cons, if_neg (by decide +kernel), valV_cons, if_pos rfl]
theorem st_at (dC dL : Addr) (n : Int) : valV (stK dC dL n) (Sum.inr "at" : Key) = some (.int n) := by
  rw [valV_cons, if_neg (by decide +kernel), valV_cons, if_neg (by decide +kernel), valV_cons, if_pos rfl]
theorem st_put (dC dL : Addr) (n m : Int) : putK (stK dC dL n) (Sum.inr "at" : Key) (.int m) =
    stK dC dL m := by
  have h1 : ¬ ((Sum.inr "cells" : Key) = (Sum.inr "at" : Key)) := by decide +kernel
  have h2 : ¬ ((Sum.inr "lefts" : Key) = (Sum.inr "at" : Key)) := by decide +kernel
  have h3 : ¬ ((Sum.inr "room" : Key) = (Sum.inr "at" : Key)) := by decide +kernel
  unfold putK
  simp [h1, h2, h3]
theorem fmod_bounds (a b : Int) (hb : 0 < b) : 0 ≤ a.fmod b ∧ a.fmod b < b := ⟨Int.fmod_nonneg_of_pos a hb, Int.fmod_lt_of_pos a hb⟩
theorem nz {i j : Int} (h : j ≠ 0) : (fun (_ : Int) (j : Int) => j ≠ 0) i j := h
theorem dp_ints (K : PySem.W.Frag) (H : Hp) : ∀ ns : List Int, DpAll K H (ns.map V.int) (ns.map PyData.int)
  | [] => .nil
  | n :: ns => .cons (.int n) (dp_ints K H ns)
theorem lay_ints : ∀ ns : List Int, PyData.canLayAll0 (ns.map PyData.int) = true
  | [] => by
    simp [PyData.canLayAll0]
  | n :: ns => by simp [PyData.canLayAll0, PyData.canLay0, lay_ints ns]
theorem depth_ints : ∀ ns : List Int, PyData.depthAll (ns.map PyData.int) = 0
  | [] => by
    simp [PyData.depthAll]
  | n :: ns => by simp [PyData.depthAll, PyData.depth, depth_ints ns]
theorem shaped_ints {ns : List Int} (h : ns.length ≤ 100) : SeqAt.shaped (.list (ns.map PyData.int)) = true := by
  unfold SeqAt.shaped
  have e : PyData.depth (.list (ns.map PyData.int)) = 1 := by rw [PyData.depth, depth_ints]
  rw [e]
  have l : ns.length ≤ sizeLine := Nat.le_trans h (by decide)
  simp [PyData.canLay0, lay_ints, l]
theorem eqv_ints_nil : ∀ ns : List Int, PyData.eqv (.list (ns.map PyData.int)) (.list []) = ns.isEmpty
  | [] => by simp [PyData.eqv, PyData.eqvAll]
  | n :: ns => by simp [PyData.eqv, PyData.eqvAll]
theorem shaped_nil : SeqAt.shaped (.list []) = true := by decide +kernel
end KL

set_option Elab.async false
set_option maxRecDepth 100000
set_option maxHeartbeats 4000000
/-! Comprehensions whose elements leave all that was tracked as it was. -/
namespace KL
open PySem PySem.Spec PyProof.Rows L2 SX Evl
section
variable {J : It} {n : Nat} {G : Hp → Prop} {Y : Nat → Hp → V → Hp → Prop} {α : Type}
/-- [F y for y in ys if p y] -/
theorem lc_ys (w : Walk J n G Y) {g : TG} {tt : TT} {te : TE} {vs : List Nat} {σ : L2.St} {H1 : Hp} {D : Addr} {Qd : Hp → Prop} (ys : List α) (hn : n = ys.length) (hz : n ≤ 100000) (p : α → Bool) (F : α → V) (nD : H1 D = none)
    (hG : ∀ H, Ex H1 H → G H)
    (hs : ∀ i (y : α) x H H', ys[i]? = some y → Ex H1 H → Y i H x H' → ∀ (Z : V → Hp → Prop) (N : Hp → Prop), (∀ H4, Ex H H4 → p y = true → Z (F y) H4) → (∀ H3, Ex H H3 → p y = false → N H3) →
      g x (wipe σ vs) H' fun σ2 H2 => wipe σ2 vs = wipe σ vs ∧ tt σ2 H2 fun b H3 => if b = true then te σ2 H3 Z else N H3)
    (hd : ∀ H, Ex H1 H → H D = some (.lst ((ys.filter p).map F)) → Qd H) :
    ∃ Wk : Nat → Nat → Hp → Prop, (∃ r, Wk 0 r (upd H1 D (.lst []))) ∧ ∀ j r Hc, Wk j r Hc →
      (J.stop j Hc ∧ Qd Hc) ∨ (J.go j Hc ∧ ∃ After : Hp → Prop, (∀ Hd, After Hd → ∃ r', r' < r ∧ Wk (j + 1) r' Hd) ∧ ∀ x H', J.yld j Hc x H' → g x (wipe σ vs) H' fun σ2 H2 => wipe σ2 vs = wipe σ vs ∧ tt σ2 H2 fun b H3 =>
        if b = true then te σ2 H3 fun y H4 => ∃ had, H4 D = some (.lst had) ∧ had.length < sizeLine ∧ After (upd H4 D (.lst (had ++ [y]))) else After H3) := by
  refine lc_it w (fun i H => Ex H1 H ∧ H D = some (.lst (((ys.take i).filter p).map F))) ⟨Ex.new nD, by rw [upd_same]; rfl⟩ (fun i H _ h => hG H h.1) ?_ ?_
  · rintro i x H H' hi ⟨ex, hD⟩ hy
    have hi' : i < ys.length := by omega
    have ey : ys[i]? = some ys[i] := List.getElem?_eq_getElem hi'
    have tk : ys.take (i + 1) = ys.take i ++ [ys[i]] := by rw [List.take_add_one, ey]; rfl
    refine hs i ys[i] x H H' ey ex hy _ _ (fun H4 e4 hp => ?_) fun H3 e3 hp => ?_
    · refine ⟨_, e4 _ _ hD, ?_, ?_, ?_⟩
      · have h1 : (((ys.take i).filter p).map F).length ≤ i := by
          rw [List.length_map]
          exact Nat.le_trans (List.length_filter_le _ _) (by rw [List.length_take]; omega)
        exact Nat.lt_of_le_of_lt h1 (sz_lt (by omega))
      · exact Ex.mut (ex.trans e4) nD
      · rw [upd_same, tk, List.filter_append, List.map_append]
        simp [hp]
    · refine ⟨ex.trans e3, ?_⟩
      rw [e3 _ _ hD, tk, List.filter_append, List.map_append]
      simp [hp]
  · rintro H ⟨ex, hD⟩
    refine hd H ex ?_
    rw [hD, hn, List.take_length]
/-- {k: v for ..}, by pairs told by the item -/
theorem dc_ys (w : Walk J n G Y) {g : TG} {tt : TT} {tk tv : TE} {vs : List Nat} {σ : L2.St} {H1 : Hp} {D : Addr} {Qd : Hp → Prop} (ys : List α) (hn : n = ys.length) (hz : n ≤ 100000) (p : α → Bool) (kf : α → Key) (F : α → V) (nD : H1 D = none)
    (hG : ∀ H, Ex H1 H → G H)
    (hs : ∀ i (y : α) x H H', ys[i]? = some y → Ex H1 H → Y i H x H' → ∀ (Z : V → V → Hp → Prop) (N : Hp → Prop), (∀ H4, Ex H H4 → p y = true → Z (kV (kf y)) (F y) H4) → (∀ H3, Ex H H3 → p y = false → N H3) →
      g x (wipe σ vs) H' fun σ2 H2 => wipe σ2 vs = wipe σ vs ∧ tt σ2 H2 fun b H3 => if b = true then tk σ2 H3 fun a H4 => tv σ2 H4 fun z H5 => Z a z H5 else N H3)
    (hd : ∀ H, Ex H1 H → H D = some (.dK ((ys.filter p).foldl (fun acc y => putK acc (kf y) (F y)) [])) → Qd H) :
    ∃ Wk : Nat → Nat → Hp → Prop, (∃ r, Wk 0 r (upd H1 D (.dK []))) ∧ ∀ j r Hc, Wk j r Hc →
      (J.stop j Hc ∧ Qd Hc) ∨ (J.go j Hc ∧ ∃ After : Hp → Prop, (∀ Hd, After Hd → ∃ r', r' < r ∧ Wk (j + 1) r' Hd) ∧ ∀ x H', J.yld j Hc x H' → g x (wipe σ vs) H' fun σ2 H2 => wipe σ2 vs = wipe σ vs ∧ tt σ2 H2 fun b H3 =>
        if b = true then tk σ2 H3 fun y H4 => tv σ2 H4 fun z H5 => ∃ had k, y = kV k ∧ H5 D = some (.dK had) ∧ had.length < sizeLine ∧ After (upd H5 D (.dK (putK had k z))) else After H3) := by
  have len_put : ∀ (l : List α) (acc : List (Key × V)), (l.foldl (fun acc y => putK acc (kf y) (F y)) acc).length ≤ acc.length + l.length := by
    intro l
    induction l with
    | nil => intro acc; simp
    | cons y r ih =>
      intro acc
      have h1 := ih (putK acc (kf y) (F y))
      have h2 : (putK acc (kf y) (F y)).length ≤ acc.length + 1 := by
        unfold putK
        split
        · rw [List.length_map]; omega
        · simp [List.length_append]
      rw [List.foldl_cons]
      simp only [List.length_cons]
      omega
  refine ⟨fun i m H => m = n - i ∧ i ≤ n ∧ Ex H1 H ∧ H D = some (.dK (((ys.take i).filter p).foldl (fun acc y => putK acc (kf y) (F y)) [])), ⟨n, by simp, Nat.zero_le _, Ex.new nD, by rw [upd_same]; rfl⟩, ?_⟩
  rintro i m H ⟨rfl, hi, ex, hD⟩
  have q := hG H ex
  by_cases hlt : i < n
  · have hi' : i < ys.length := by omega
    have ey : ys[i]? = some ys[i] := List.getElem?_eq_getElem hi'
    have tk' : ys.take (i + 1) = ys.take i ++ [ys[i]] := by rw [List.take_add_one, ey]; rfl
    refine .inr ⟨w.goes i H hlt q, fun H' => Ex H1 H' ∧ H' D = some (.dK (((ys.take (i + 1)).filter p).foldl (fun acc y => putK acc (kf y) (F y)) [])), fun H' h' => ⟨n - (i + 1), by omega, rfl, hlt, h'⟩, fun x H' y => ?_⟩
    refine hs i ys[i] x H H' ey ex (w.yields i H x H' hlt q y) _ _ (fun H4 e4 hp => ?_) fun H3 e3 hp => ?_
    · refine ⟨_, kf ys[i], rfl, e4 _ _ hD, ?_, Ex.mut (ex.trans e4) nD, ?_⟩
      · have h1 := len_put ((ys.take i).filter p) []
        have h2 : ((ys.take i).filter p).length ≤ i := Nat.le_trans (List.length_filter_le _ _) (by rw [List.length_take]; omega)
        have h3 : ([] : List (Key × V)).length = 0 := rfl
        exact sz_lt (by omega)
      · rw [upd_same, tk', List.filter_append, List.foldl_append]
        simp [hp]
    · refine ⟨ex.trans e3, ?_⟩
      rw [e3 _ _ hD, tk', List.filter_append, List.foldl_append]
      simp [hp]
  · have e : i = n := by omega
    subst e
    refine .inl ⟨w.stops H q, hd H ex ?_⟩
    rw [hD, hn, List.take_length]
end
end KL

set_option Elab.async false
set_option maxRecDepth 100000
set_option maxHeartbeats 4000000
/-! Words and grammars as data; what the program's small defs promise of them. -/
namespace KL
open PySem PySem.Spec PyProof.Rows L2 SX Evl
/-- a def that leaves all that was tracked as it was -/
abbrev spP (n : Nat) (R : List V → Hp → V → Prop) : Sp := fun vs H Q _ => vs.length = n ∧ ∃ v, R vs H v ∧ ∀ H', Ex H H' → Q v H'
abbrev ss (l : List Nat) : V := .str (S l)
def mem (m : Str) (c : Nat) : Bool := decide (c ∈ m.cps.toList)
abbrev sgWord : Str := "abcdefghijklmnopqrstuvwxyz0123456789-=."
abbrev sgName : Str := "abcdefghijklmnopqrstuvwxyz-"
abbrev sgLetter : Str := "abcdefghijklmnopqrstuvwxyz0123456789"
abbrev sgFigure : Str := "0123456789"
/-- the module's constants -/
structure Csts (K : PySem.W.Frag) (mg : Str → Option Value) (aK aA aV aL : Addr) : Prop where
  g_MOST_SIGNS : ∃ u, mg "MOST_SIGNS" = some u ∧ RelV (.int 80) u
  g_MOST_WORDS : ∃ u, mg "MOST_WORDS" = some u ∧ RelV (.int 80) u
  g_LEAST_NAME : ∃ u, mg "LEAST_NAME" = some u ∧ RelV (.int 2) u
  g_MOST_NAME : ∃ u, mg "MOST_NAME" = some u ∧ RelV (.int 12) u
  g_MOST_OPTIONS : ∃ u, mg "MOST_OPTIONS" = some u ∧ RelV (.int 24) u
  g_MOST_PLACES : ∃ u, mg "MOST_PLACES" = some u ∧ RelV (.int 5) u
  g_FIGURES : ∃ u, mg "FIGURES" = some u ∧ RelV (.str sgFigure) u
  g_LETTERS : ∃ u, mg "LETTERS" = some u ∧ RelV (.str sgLetter) u
  g_NAME_SIGNS : ∃ u, mg "NAME_SIGNS" = some u ∧ RelV (.str sgName) u
  g_SIGNS : ∃ u, mg "SIGNS" = some u ∧ RelV (.str sgWord) u
  g_KINDS : ∃ u, mg "KINDS" = some u ∧ RelV (.ref aK) u
  g_ARITIES : ∃ u, mg "ARITIES" = some u ∧ RelV (.ref aA) u
  g_VALUELESS : ∃ u, mg "VALUELESS" = some u ∧ RelV (.ref aV) u
  g_LONE : ∃ u, mg "LONE" = some u ∧ RelV (.ref aL) u
  t_KINDS : ∀ H, SqT K H aK [.str "flag", .str "count", .str "once", .str "last", .str "all", .str "maybe"]
  t_ARITIES : ∀ H, SqT K H aA [.str "one", .str "may", .str "many"]
  t_VALUELESS : ∀ H, SqT K H aV [.str "flag", .str "count"]
  t_LONE : ∀ H, SqT K H aL [.str "flag", .str "count", .str "maybe"]
def spMade : Sp := spP 2 fun vs _ v => ∃ (l : List Nat) (m : Str), vs = [ss l, .str m] ∧ l.length ≤ 1000 ∧ v = .bl (l.all (mem m))
def wordOk (l : List Nat) : Bool := decide (l.length ≤ 80) && l.all (mem sgWord)
def nameOk (l : List Nat) : Bool := decide (2 ≤ l.length) && decide (l.length ≤ 12) && l.all (mem sgName) && decide (l.head? ≠ some 45) && decide (l.getLast? ≠ some 45)
def letterOk (l : List Nat) : Bool := decide (l.length ≤ 1) && l.all (mem sgLetter)
def dashed (l : List Nat) : Bool := decide (l.head? = some 45) && decide (l ≠ [45])
def number (l : List Nat) : Bool := dashed l && (l.drop 1).all (mem sgFigure)
def spWord : Sp := spP 1 fun vs _ v => ∃ l : List Nat, vs = [ss l] ∧ l.length ≤ 1000 ∧ v = .bl (wordOk l)
def spName : Sp := spP 1 fun vs _ v => ∃ l : List Nat, vs = [ss l] ∧ l.length ≤ 1000 ∧ v = .bl (nameOk l)
def spLetter : Sp := spP 1 fun vs _ v => ∃ l : List Nat, vs = [ss l] ∧ l.length ≤ 1000 ∧ v = .bl (letterOk l)
def spDashed : Sp := spP 1 fun vs _ v => ∃ l : List Nat, vs = [ss l] ∧ l.length ≤ 1000 ∧ v = .bl (dashed l)
def spNumber : Sp := spP 1 fun vs _ v => ∃ l : List Nat, vs = [ss l] ∧ l.length ≤ 1000 ∧ v = .bl (number l)
theorem ss_eq {a b : List Nat} : (decide (ss a = ss b)) = decide (a = b) := by
  by_cases h : a = b
  · subst h
    simp
  · have : ¬ ss a = ss b := fun z => h (S_inj (V.str.inj z))
    rw [decide_eq_false h, decide_eq_false this]
theorem isStr {K : PySem.W.Frag} {H : Hp} (l : Str) : TyX K H (.str l) (.type "str") := .base (.str l)
theorem kStr {K : PySem.W.Frag} : PySem.W.kitOne K (.type "str") (.type "str") = some true := kit_ty (by decide +kernel)
theorem kTup {K : PySem.W.Frag} : PySem.W.kitOne K (.type "tuple") (.type "tuple") = some true := kit_ty (by decide +kernel)
theorem kBool {K : PySem.W.Frag} : PySem.W.kitOne K (.type "bool") (.type "bool") = some true := kit_ty (by decide +kernel)
theorem len1000 {l : List Nat} (h : l.length ≤ 1000) : (S l).length ≤ sizeLine := by rw [S_len]; exact Nat.le_of_lt (small1000 h)
end KL

set_option Elab.async false
set_option maxRecDepth 100000
set_option maxHeartbeats 4000000
namespace KL
open PySem PySem.Spec PyProof.Rows L2 SX Evl
theorem lit_dash : ("-" : Str) = S [45] := by decide +kernel
theorem lit_dd : ("--" : Str) = S [45, 45] := by decide +kernel
theorem lit_nil : ("" : Str) = S [] := by decide +kernel
theorem lit_eq : ("=" : Str) = S [61] := by decide +kernel
/-- a text against a written one -/
theorem vs_lit {l m : List Nat} {x : Str} (h : x = S m) : decide (ss l = V.str x) = decide (l = m) := by rw [h]; exact ss_eq
theorem vs_ch {c d : Nat} {x : Str} (h : x = S [d]) : decide (V.str ⟨#[c]⟩ = V.str x) = decide (c = d) := by
  rw [h]
  have e : decide (ss [c] = ss [d]) = decide ([c] = [d]) := ss_eq
  exact e.trans (by simp)
theorem st_S (l m : List Nat) : Txt.startswith (S l) (S m) = decide (l.take m.length = m) := by
  have h : Txt.startswith (S l) (S m) = (decide (0 + m.length ≤ l.length) && (l.toArray.extract 0 (0 + m.length) == m.toArray)) := by
    unfold Txt.startswith Builtin.Str.subAt
    rw [S_len, S_len]
  rw [h, Nat.zero_add]
  have e : (l.toArray.extract 0 m.length == m.toArray) = decide (l.take m.length = m) := by
    rw [Bool.eq_iff_iff]
    simp [← Array.toList_inj]
  rw [e]
  by_cases q : l.take m.length = m
  · have : m.length ≤ l.length := by
      have := congrArg List.length q
      rw [List.length_take] at this
      omega
    simp [q, this]
  · simp [q]
theorem take1 (l : List Nat) (a : Nat) : decide (l.take 1 = [a]) = decide (l.head? = some a) := by
  cases l <;> simp
theorem at_head {c : Nat} {r : List Nat} : atI (S (c :: r)).cps.toList 0 = some c := atI_nat (j := 0) (by simp [S])
theorem at_last {r : List Nat} {c : Nat} : atI (S (r ++ [c])).cps.toList (-1) = some c := atI_last r c
theorem head_at {l : List Nat} {c : Nat} (h : l.head? = some c) : atI (S l).cps.toList 0 = some c := by
  cases l with
  | nil => cases h
  | cons d r => cases h; exact at_head
theorem last_at {l : List Nat} {c : Nat} (h : l.getLast? = some c) : atI (S l).cps.toList (-1) = some c := by
  obtain ⟨r, e⟩ := List.getLast?_eq_some_iff.mp h
  rw [e]
  exact at_last
/-! ### grammars as data -/
structure Opt where
  name : List Nat
  letter : List Nat
  kind : List Nat
  deriving DecidableEq
abbrev kFlag : List Nat := [102, 108, 97, 103]
abbrev kCount : List Nat := [99, 111, 117, 110, 116]
abbrev kOnce : List Nat := [111, 110, 99, 101]
abbrev kLast : List Nat := [108, 97, 115, 116]
abbrev kAll : List Nat := [97, 108, 108]
abbrev kMaybe : List Nat := [109, 97, 121, 98, 101]
abbrev aOne : List Nat := [111, 110, 101]
abbrev aMay : List Nat := [109, 97, 121]
abbrev aMany : List Nat := [109, 97, 110, 121]
theorem lit_flag : ("flag" : Str) = S kFlag := by decide +kernel
theorem lit_count : ("count" : Str) = S kCount := by decide +kernel
theorem lit_once : ("once" : Str) = S kOnce := by decide +kernel
theorem lit_last : ("last" : Str) = S kLast := by decide +kernel
theorem lit_all : ("all" : Str) = S kAll := by decide +kernel
theorem lit_maybe : ("maybe" : Str) = S kMaybe := by decide +kernel
theorem lit_one : ("one" : Str) = S aOne := by decide +kernel
theorem lit_may : ("may" : Str) = S aMay := by decide +kernel
theorem lit_many : ("many" : Str) = S aMany := by decide +kernel
def kinds : List (List Nat) := [kFlag, kCount, kOnce, kLast, kAll, kMaybe]
def arities : List (List Nat) := [aOne, aMay, aMany]
theorem eqV_ss (a b : List Nat) : eqV (ss a) (ss b) = decide (a = b) := by
  show (S a == S b) = decide (a = b)
  exact S_beq_eq
theorem inV_ss (x : List Nat) : ∀ l : List (List Nat), inV (ss x) (l.map ss) = decide (x ∈ l)
  | [] => by simp [inV]
  | y :: l => by
    have e : inV (ss x) ((y :: l).map ss) = (eqV (ss y) (ss x) || inV (ss x) (l.map ss)) := rfl
    rw [e, eqV_ss, inV_ss x l, Bool.eq_iff_iff, Bool.or_eq_true, decide_eq_true_iff, decide_eq_true_iff, decide_eq_true_iff, List.mem_cons]
    exact ⟨fun z => z.imp Eq.symm id, fun z => z.imp Eq.symm id⟩
theorem kinds_lit : ([.str "flag", .str "count", .str "once", .str "last", .str "all", .str "maybe"] : List V) = kinds.map ss := by
  rw [lit_flag, lit_count, lit_once, lit_last, lit_all, lit_maybe]
  rfl
theorem arities_lit : ([.str "one", .str "may", .str "many"] : List V) = arities.map ss := by
  rw [lit_one, lit_may, lit_many]
  rfl
theorem valueless_lit : ([.str "flag", .str "count"] : List V) = [kFlag, kCount].map ss := by
  rw [lit_flag, lit_count]
  rfl
theorem lone_lit : ([.str "flag", .str "count", .str "maybe"] : List V) = [kFlag, kCount, kMaybe].map ss := by
  rw [lit_flag, lit_count, lit_maybe]
  rfl
theorem flat_ss : ∀ l : List (List Nat), (l.map ss).all flatV = true
  | [] => rfl
  | _ :: l => flat_ss l
def Opt.ok (o : Opt) : Bool := nameOk o.name && letterOk o.letter && decide (o.kind ∈ kinds)
def OptAt (K : PySem.W.Frag) (H : Hp) (a : Addr) (o : Opt) : Prop := SqT K H a [ss o.name, ss o.letter, ss o.kind]
def PlAt (K : PySem.W.Frag) (H : Hp) (a : Addr) (p : List Nat × List Nat) : Prop := SqT K H a [ss p.1, ss p.2]
def AllAt {α : Type} (R : Addr → α → Prop) : List Addr → List α → Prop := Paired R
def OptsAt (K : PySem.W.Frag) (H : Hp) (a : Addr) (os : List Opt) : Prop := ∃ as : List Addr, SqT K H a (as.map V.ref) ∧ Paired (OptAt K H) as os
def PlsAt (K : PySem.W.Frag) (H : Hp) (a : Addr) (ps : List (List Nat × List Nat)) : Prop := ∃ as : List Addr, SqT K H a (as.map V.ref) ∧ Paired (PlAt K H) as ps
structure Gr where
  opts : List Opt
  pls : List (List Nat × List Nat)
  short : Bool
  mixed : Bool
  minus : Bool
structure GrAt (K : PySem.W.Frag) (H : Hp) (a : Addr) (g : Gr) : Prop where
  ex : ∃ ao ap am, SqT K H a [.ref ao, .ref ap, .ref am] ∧ OptsAt K H ao g.opts ∧ PlsAt K H ap g.pls ∧ SqT K H am [.bl g.short, .bl g.mixed, .bl g.minus]
theorem OptAt.mono {K : PySem.W.Frag} {H H' : Hp} {a : Addr} {o : Opt} (e : Ex H H') (h : OptAt K H a o) : OptAt K H' a o := ex_t e h
theorem PlAt.mono {K : PySem.W.Frag} {H H' : Hp} {a : Addr} {o : List Nat × List Nat} (e : Ex H H') (h : PlAt K H a o) : PlAt K H' a o := ex_t e h
theorem OptsAt.mono {K : PySem.W.Frag} {H H' : Hp} {a : Addr} {os : List Opt} (e : Ex H H') (h : OptsAt K H a os) : OptsAt K H' a os := by
  obtain ⟨as, h1, h2⟩ := h
  exact ⟨as, ex_t e h1, L2.Paired.mapP h2 fun _ _ z => OptAt.mono e z⟩
theorem PlsAt.mono {K : PySem.W.Frag} {H H' : Hp} {a : Addr} {os : List (List Nat × List Nat)} (e : Ex H H') (h : PlsAt K H a os) : PlsAt K H' a os := by
  obtain ⟨as, h1, h2⟩ := h
  exact ⟨as, ex_t e h1, L2.Paired.mapP h2 fun _ _ z => PlAt.mono e z⟩
theorem GrAt.mono {K : PySem.W.Frag} {H H' : Hp} {a : Addr} {g : Gr} (e : Ex H H') (h : GrAt K H a g) : GrAt K H' a g := by
  obtain ⟨ao, ap, am, h1, h2, h3, h4⟩ := h.ex
  exact ⟨ao, ap, am, ex_t e h1, h2.mono e, h3.mono e, ex_t e h4⟩
theorem Paired.at {α β : Type} {R : α → β → Prop} : ∀ {as : List α} {bs : List β} {i : Nat} {b : β}, Paired R as bs → bs[i]? = some b → ∃ a, as[i]? = some a ∧ R a b
  | _, _, _, _, .nil, none_ => by simp at none_
  | _, _, 0, _, .cons first _, e => by
    simp at e
    subst e
    exact ⟨_, rfl, first⟩
  | _, _, i + 1, b, .cons _ t, e => by
    obtain ⟨a, h1, h2⟩ := Paired.at (i := i) (b := b) t (by simpa using e)
    exact ⟨a, by simpa using h1, h2⟩
/-! ### promises -/
def spOneOf (K : PySem.W.Frag) : Sp := spP 2 fun vs H v => ∃ (l : List Nat) (a : Addr) (m : List (List Nat)), vs = [ss l, .ref a] ∧ SqT K H a (m.map ss) ∧ v = .bl (decide (l ∈ m))
def spTupOf (K : PySem.W.Frag) : Sp := spP 2 fun vs H v => ∃ (a : Addr) (xs : List V) (n : Nat), vs = [.ref a, .int n] ∧ SqT K H a xs ∧ v = .bl (decide (xs.length = n))
theorem ty_tup {K : PySem.W.Frag} {H : Hp} {a : Addr} {xs : List V} (h : SqT K H a xs) : TyX K H (.ref a) (.type "tuple") := by
  rcases h with (h | ⟨o, h⟩) | ⟨o, its, n, h1, h2, _⟩
  · exact .base (.tup h)
  · exact .fTuple h
  · exact .kTuple h1 h2
end KL

set_option Elab.async false
set_option maxRecDepth 100000
set_option maxHeartbeats 4000000
/-! for k, x in enumerate(t), t a tuple -/
namespace KL
open PySem PySem.Spec PyProof.Rows L2 SX Evl
section
variable {prog : Program} {w : World} {A : Around} {E : Value → Shared → Prop} {s : Shared} {it t : Addr} {i : Nat} {items : Array Value}
theorem tnext_go {x : Value} {Q : Value → Shared → Prop} (hi : s.heap.IsTupleIter it t i) (ht : s.heap.IsTuple t items) (hx : items[i]? = some x)
    (goal : ∀ h', h'.IsTupleIter it t (i + 1) → Heap.SameBut it s.heap h' → Q x { s with heap := h' }) :
    wpAny (model prog w) A (Builtin.SmallTypes.nextOf (Value.ref it)) Q E s := by
  obtain ⟨oi, gi, ci, di⟩ := id hi
  obtain ⟨ot, gt, ct, nt, dt⟩ := ht
  have ty : s.TypeIs (.ref it) "tuple_iterator" := ⟨oi, gi, ci⟩
  show wpAny _ _ (Builtin.SmallTypes.nextOf _) _ _ _
  rw [Builtin.SmallTypes.nextOf]
  refine wpAny_bind (wpAny_callSpecial?_slot (name := Str.ofString "__next__") ty slot_tupleiter_next (wpAny_call_entry slot_tupleiter_next ty entry_tupleiter_next ?_ (args_tupleiter_next _)))
  refine wpAny_bind (m := field (.ref it) 0) (wpAny_field gi di (x := .ref t) rfl ?_)
  rw [if_neg (show ¬ ((Value.ref t == Value.none) = true) from fun z => Bool.false_ne_true z)]
  refine wpAny_bind (m := field (.ref it) 1) (wpAny_field gi di (x := .int i 0) rfl ?_)
  refine wpAny_bind (m := seqItems? (.ref t)) (wpAny_seqItems gt dt ?_)
  simp only [hx, Int.toNat_natCast]
  refine wpAny_bind (wpAny_setField gi di (by simp) (wpAny_pure ⟨x, rfl, wpAny_pure (goal _ ⟨_, Heap.get?_update_self _ gi (Obj.isFreed_of_fields (Obj.data_mapFields di _)), (Obj.cls_mapFields ..).trans ci, ?_⟩ (Heap.SameBut.update ..))⟩))
  rw [Obj.data_mapFields di]
  simp [rawInt]
theorem tnext_end {Q : Value → Shared → Prop} (hh : A.handled = none) (hi : s.heap.IsTupleIter it t i) (ht : s.heap.IsTuple t items) (hx : items[i]? = none)
    (goal : ∀ h' e, Heap.ExtBut it s.heap h' → (∃ o, h'.get? e = some o ∧ o.cls = .type "StopIteration") → E (.ref e) { s with heap := h' }) :
    wpAny (model prog w) A (Builtin.SmallTypes.nextOf (Value.ref it)) Q E s := by
  obtain ⟨oi, gi, ci, di⟩ := id hi
  obtain ⟨ot, gt, ct, nt, dt⟩ := ht
  have ty : s.TypeIs (.ref it) "tuple_iterator" := ⟨oi, gi, ci⟩
  show wpAny _ _ (Builtin.SmallTypes.nextOf _) _ _ _
  rw [Builtin.SmallTypes.nextOf]
  refine wpAny_bind (wpAny_callSpecial?_slot (name := Str.ofString "__next__") ty slot_tupleiter_next (wpAny_call_entry slot_tupleiter_next ty entry_tupleiter_next ?_ (args_tupleiter_next _)))
  refine wpAny_bind (m := field (.ref it) 0) (wpAny_field gi di (x := .ref t) rfl ?_)
  rw [if_neg (show ¬ ((Value.ref t == Value.none) = true) from fun z => Bool.false_ne_true z)]
  refine wpAny_bind (m := field (.ref it) 1) (wpAny_field gi di (x := .int i 0) rfl ?_)
  refine wpAny_bind (m := seqItems? (.ref t)) (wpAny_seqItems gt dt ?_)
  simp only [hx, Int.toNat_natCast]
  refine wpAny_bind (wpAny_rule (wpAny_bind (wpAny_setField gi di (by simp) ?_)))
  refine wpAny_bind (m := newExc (.type "StopIteration") []) ?_
  simp only [newExc, newTuple]
  apply wpAny_bind
  refine wpAny_newObj_type ?_ (by size_fits)
  refine wpAny_bind (m := firstArgMember _ _) (wpAny_of_eq (a := Value.none) (by first | rfl | (simp only [firstArgMember]; rfl)) (wpAny_newObj_type ?_ (by size_fits)))
  simp only [raiseNew]
  apply wpAny_bind
  refine wpAny_handled ?_
  have nh : A.in1.handled = none := hh
  rw [nh]
  exact wpAny_bind (wpAny_pure (wpAny_throw (goal _ _ (((Heap.SameBut.update ..).extBut.push _).push _) ⟨_, Heap.get?_push_size _ rfl, rfl⟩)))
end
theorem drawsTup {prog : Program} {w : World} {A : Around} (hh : A.handled = none) (it t : Addr) (hne : t ≠ it) (items : Array Value) :
    Draws prog w A it [it, t] items.size (fun i v => items[i]? = some v) (fun i h => h.IsTupleIter it t i ∧ h.IsTuple t items) :=
  { live := fun _ _ st => by obtain ⟨⟨o, g, _⟩, _⟩ := st; exact ⟨o, g⟩
    frame := fun _ _ _ st kp => by
      obtain ⟨⟨o, g, r⟩, ⟨o', g', r'⟩⟩ := st
      exact ⟨⟨o, kp it (by simp) o g, r⟩, ⟨o', kp t (by simp) o' g', r'⟩⟩
    item := fun i s Q E lt st goal => tnext_go st.1 st.2 (x := items[i]) (by simp [lt]) fun h' a b => by
      refine goal _ h' s.toks (by simp [lt]) ⟨a, ?_⟩ b
      obtain ⟨o', g', r'⟩ := st.2
      exact ⟨o', b.extBut t o' hne g', r'⟩
    done := fun s Q E st goal => tnext_end hh st.1 st.2 (by simp) goal }
/-! ### enumerate(t) is made -/
theorem meetsEnumT (l : Addr) (items : Array Value) (n : Nat) (dct : Option Addr) (sl : Array (Option Value)) :
    Meets (Builtin.«enumerate.__new__» ⟨[.type "enumerate", .ref l], []⟩) (fun _ R s => s.heap.get? l = some { cls := .type "tuple", dict := dct, data := .seq items n, slots := sl } ∧
      R (.ok (.ret (.ref (s.heap.push { cls := .type "tuple_iterator", data := .fields #[.ref l, .int 0 0] }).objs.size)))
        { s with heap := (s.heap.push { cls := .type "tuple_iterator", data := .fields #[.ref l, .int 0 0] }).push { cls := .type "enumerate", data := .fields #[.none, .bool false, .ref s.heap.objs.size, rawInt 0, .none, .none] } }) :=
  .of_wp fun prog w A R sh h => by
    obtain ⟨hp, gs, dd, tk, os⟩ := sh
    obtain ⟨ht, h⟩ := h
    have hsub := sub_enumerate
    have isT : Heap.IsTuple (Shared.heap ⟨hp, gs, dd, tk, os⟩) l items := ⟨_, ht, rfl, n, rfl⟩
    wp_walk using AutoSeq1.wpAny_loadPart' ht
    refine wpAny_stack_any fun _ => ?_
    refine wpAny_pure ?_
    split
    · rename_i c _ _ _ _ _
      cases c == .type "enumerate"
      all_goals
        wp_walk using AutoSeq1.wpAny_loadPart' ht, wpAny_pyIter_tuple isT
        exact ⟨_, rfl, h⟩
    · wp_walk using AutoSeq1.wpAny_loadPart' ht, wpAny_pyIter_tuple isT
      exact ⟨_, rfl, h⟩
theorem callEnumT {prog : Program} {w : World} {A : Around} {E : Value → Shared → Prop} {s : Shared} {l : Addr} {items : Array Value} {Q : Value → Shared → Prop} (isT : s.heap.IsTuple l items)
    (goal : ∀ h', IsEnum h' (s.heap.objs.size + 1) s.heap.objs.size 0 .none → h'.IsTupleIter s.heap.objs.size l 0 → (∀ b o, s.heap.get? b = some o → h'.get? b = some o) → Q (.ref (s.heap.objs.size + 1)) { s with heap := h' }) :
    wpAny (model prog w) A (call (Value.type "enumerate") [Value.ref l]) Q E s := by
  obtain ⟨⟨c, dct, dt, sl⟩, hl, hc, n, hd⟩ := isT
  obtain rfl : c = .type "tuple" := hc
  obtain rfl : dt = .seq items n := hd
  refine callType_new F.called_enumerate (by decide) (F.typeCall_enumerate_1 _) (F.newCall_enumerate_1 _) (fun obj => F.args_object_init_2 obj _) F.entry_enumerate_new (meetsEnumT l items n dct sl) ⟨hl, ?_⟩
  generalize e1 : s.heap.push { cls := .type "tuple_iterator", data := .fields #[.ref l, .int 0 0] } = h1
  have z1 : h1.objs.size = s.heap.objs.size + 1 := by rw [← e1]; exact Heap.size_push ..
  have g1 : h1.get? s.heap.objs.size = some { cls := .type "tuple_iterator", data := .fields #[.ref l, .int 0 0] } := by rw [← e1]; exact Heap.get?_push_size _ rfl
  have k1 : ∀ b o, s.heap.get? b = some o → h1.get? b = some o := fun b o q => by rw [← e1]; exact Heap.get?_push_of_some _ q
  show _ ∧ _
  have g2 : IsEnum (h1.push { cls := .type "enumerate", data := .fields #[.none, .bool false, .ref s.heap.objs.size, rawInt 0, .none, .none] }) (s.heap.objs.size + 1) s.heap.objs.size 0 .none := by
    have q := Heap.get?_push_size h1 (o := { cls := .type "enumerate", data := .fields #[.none, .bool false, .ref s.heap.objs.size, rawInt 0, .none, .none] }) rfl
    rw [z1] at q
    exact q
  rw [z1]
  exact ⟨⟨_, g2, rfl⟩, goal _ g2 ⟨_, Heap.get?_push_of_some _ g1, rfl, rfl⟩ fun b o q => Heap.get?_push_of_some _ (k1 b o q)⟩
/-! ### the walk -/
/-- the tuple at a, each item in a new pair with its number -/
def IteT (K : PySem.W.Frag) (a : Addr) : It :=
  ⟨fun i H => ∃ (xs : List V) (x : V), SqT K H a xs ∧ xs[i]? = some x,
   fun i H v H' => ∃ T x, v = .ref T ∧ H T = none ∧ H' = upd H T (.tup [.int (i : Nat), x]) ∧ ∀ xs, SqT K H a xs → xs[i]? = some x,
   fun i H => ∃ xs : List V, SqT K H a xs ∧ xs.length ≤ i⟩
theorem turnEnumT {P : Program} {w : World} {K : PySem.W.Frag} {elts : List Expr} {kk : Nat} {tpos : Pos} (a e it : Addr) :
    Turn P w K (.Tuple elts kk tpos) (IteT K a) [e, it] e (fun i h => (∃ old, IsEnum h e it ((i : Nat) : Int) old) ∧ h.IsTupleIter it a i ∧ e ≠ it ∧ a ≠ it ∧ a ≠ e) :=
  { mem := List.mem_cons_self
    obj := fun i h st b hb => by
      obtain ⟨⟨old, ge⟩, ⟨oi, gi, ci, di⟩, _⟩ := st
      have hm2 := List.mem_cons.mp hb
      rcases hm2 with z | z
      · rw [z]
        exact ⟨_, ge, fun v q => nomatch q⟩
      · have eb := List.mem_singleton.mp z
        rw [eb]
        exact ⟨oi, gi, fun v q => by rw [di] at q; cases q⟩
    keep := fun i h h' st kp => by
      obtain ⟨⟨old, ge⟩, ⟨oi, gi, r⟩, ne⟩ := st
      exact ⟨⟨old, kp e List.mem_cons_self _ ge⟩, ⟨oi, kp it (List.mem_cons_of_mem _ List.mem_cons_self) _ gi, r⟩, ne⟩
    self := fun A i s Q E st goal => by
      obtain ⟨⟨_, ge⟩, _⟩ := st
      exact wpAny_pyIter_enum ge goal
    item := by
      intro X hP hw hK hc i pins s σ H E I free st hg
      subst hP hw hK
      obtain ⟨⟨old, ge⟩, hi, ne, na, na2⟩ := st
      obtain ⟨xs, x, sq, hx⟩ := hg
      obtain ⟨its, rv, p, hz⟩ := I.tuple sq
      have gx := rv.get hx
      obtain ⟨u, hu, ru⟩ := gx
      have le : e < s.heap.objs.size := Heap.lt_size ge
      have li : it < s.heap.objs.size := by obtain ⟨_, q, _⟩ := hi; exact Heap.lt_size q
      have lt : i < its.toArray.size := by
        have := (List.getElem?_eq_some_iff.mp hu).1
        simpa using this
      refine wpAny_pyNext_enum_itemD (drawsTup (A := X.A.in1) (show X.A.in1.handled = none from I.ok.hd hc) it a na its.toArray) ge ⟨hi, p⟩ lt ne (by simp [ne, Ne.symm na2]) fun u' h' tk hu' ho hst hT hsz hk => ?_
      have eu : u' = u := by
        have h1 : its.toArray[i]? = some u := by simpa using hu
        rw [h1] at hu'
        exact (Option.some.inj hu').symm
      subst eu
      refine ⟨_, rfl, wpAny_letOwnedTupleGo_enum (s := { s with heap := h', toks := tk + 1 }) ho fun h'' he' sb => ?_⟩
      have hT2 : h''.get? s.heap.objs.size = some { cls := .type "tuple", data := .seq #[.int i tk, u'] } := (sb.2 _ (Nat.ne_of_gt le)).trans hT
      have isNew : ObjOk X.prog X.w (upd H s.heap.objs.size (.tup [.int (i : Nat), x])) h'' s.heap.objs.size (.tup [.int (i : Nat), x]) :=
        ⟨by show 2 ≤ sizeLine; decide, [.int i tk, u'], .cons ⟨_, rfl⟩ (.cons ru .nil), ⟨_, hT2, rfl, _, rfl⟩⟩
      have I2 : Inv X pins σ (upd H s.heap.objs.size (.tup [.int (i : Nat), x])) { s with heap := h'', toks := tk + 1 } :=
        I.turnedNew (ch := [e, it]) (fun b ob hb q => (sb.2 b (fun z => hb (by simp [z]))).trans (hk b ob (fun z => hb (by simp [z])) (fun z => hb (by simp [z])) q)) free (Nat.le_refl _) isNew
      refine ⟨.ref s.heap.objs.size, _, I2, rfl, ⟨_, x, rfl, I.hok.fresh (Nat.le_refl _), rfl, fun ys hy => by rw [I.tuple_inj hy sq]; exact hx⟩, ⟨⟨u', ?_⟩, ?_, ne, na, na2⟩, fun b hb => ?_⟩
      · rw [show ((i + 1 : Nat) : Int) = (i : Int) + 1 by omega]
        exact he'
      · obtain ⟨o2, g2, r2⟩ := hst.1
        exact ⟨o2, (sb.2 it (Ne.symm ne)).trans g2, r2⟩
      · have lb : b < s.heap.objs.size := by
          have hm2 := List.mem_cons.mp hb
          rcases hm2 with z | z
          · exact z ▸ le
          · exact List.mem_singleton.mp z ▸ li
        rw [upd_ne (Nat.ne_of_lt lb)]
        exact (free b hb).1
    done := by
      intro X hP hw hK hc i pins s σ H E I free st hg
      subst hP hw hK
      obtain ⟨⟨old, ge⟩, hi, ne, na, na2⟩ := st
      obtain ⟨xs, sq, hx⟩ := hg
      obtain ⟨its, rv, p, hz⟩ := I.tuple sq
      obtain ⟨f0, f1, f2, f3, f4, f5⟩ := free it (List.mem_cons_of_mem _ List.mem_cons_self)
      have ln := rv.length
      have dn : wpAny (model X.prog X.w) X.A (pyNext (.ref e)) (fun r s1 => r = none ∧ Inv X pins σ H s1) E s := by
        have hT : s.TypeIs (.ref e) "enumerate" := ⟨_, ge, rfl⟩
        unfold pyNext
        refine wpAny_bind (wpAny_attempt (wpAny_callSpecial?_slot (name := Str.ofString "__next__") hT F.slot_enumerate_next (wpAny_call_entry F.slot_enumerate_next hT F.entry_enumerate_next ?_ (F.args_enumerate_next_1 _))))
        refine wpAny_bind (m := field (.ref e) 2) (wpAny_field ge rfl (x := .ref it) rfl ?_)
        refine wpAny_bind (tnext_end (A := X.A.in1) (show X.A.in1.handled = none from I.ok.hd hc) hi p (by simp; omega) fun h' x ex ho => ?_)
        obtain ⟨o, g, c⟩ := ho
        refine wpAny_bind (wpAny_isInstance (T := "StopIteration") (b := true) ⟨o, g, c⟩ isSubtype_stop ?_)
        exact wpAny_pure ⟨rfl, I.turned (t' := s.toks) (fun b o hb q => ex b o hb q) f0 f1 f3 f4 f5⟩
      exact dn }
def iEnumT (K : PySem.W.Frag) (ta : TA) : TI := fun σ H R => ta σ H fun vs H1 => ∃ a xs, vs = [.ref a] ∧ SqT K H1 a xs ∧ R (IteT K a) H1
theorem pi_enumT {X : Cx} {e : Expr} {ta : TA} {p pos tpos : Pos} {elts : List Expr} {kk : Nat} (hg : Gl X "enumerate") (hm : X.mg "enumerate" = none) (ha : PA X [e] ta) (hs : starEach [e] X.env = [(false, eval e X.env)] := by rfl) :
    PI X (.Tuple elts kk tpos) (.Call (.Name "enumerate" p) [e] [] pos) (iEnumT X.K ta) := by
  refine ⟨fun pins s σ H R I want => ?_⟩
  refine Call_ (ld_blt I hg hm boot_enumerate (PyProof.Rows.callWith_type1 (thn (ha.run pos pins s σ H _ I want) fun us s1 ⟨vs, H1, I1, rel, q⟩ => ?_) hs rfl))
  obtain ⟨a, xs, ev, sq, q⟩ := q
  subst ev
  obtain ⟨u, rfl, ru⟩ := vals1 rel
  have eu : u = Value.ref a := ru
  cases eu
  obtain ⟨its, rv, isT, hz⟩ := I1.tuple sq
  have la : a < s1.heap.objs.size := isT.lt
  refine callEnumT (show s1.heap.IsTuple a its.toArray from isT) fun h' ge gi kp => wpAny_pyIter_enum ge ?_
  refine ⟨s1.heap.objs.size + 1, [s1.heap.objs.size + 1, s1.heap.objs.size], _, _, H1, rfl, I1.kept (t' := s1.toks) kp, turnEnumT a (s1.heap.objs.size + 1) s1.heap.objs.size, ⟨⟨.none, ge⟩, gi, Nat.succ_ne_self _, Nat.ne_of_lt la, Nat.ne_of_lt (Nat.lt_succ_of_lt la)⟩, fun b hb => ?_, q⟩
  have lb : s1.heap.objs.size ≤ b := by
    have hm2 := List.mem_cons.mp hb
    rcases hm2 with z | z
    · rw [z]; exact Nat.le_succ _
    · rw [List.mem_singleton.mp z]; exact Nat.le_refl _
  exact I1.fpOk lb (I1.hok.fresh lb)
theorem walk_enumT {K : PySem.W.Frag} {a : Addr} {xs : List V} : L2.Walk (IteT K a) xs.length (fun H => SqT K H a xs) (YPair (fun i => some (.int (i : Nat))) (fun i => xs[i]?)) :=
  { goes := fun i _ hi q => ⟨xs, xs[i], q, List.getElem?_eq_getElem hi⟩
    stops := fun _ q => ⟨xs, q, Nat.le_refl _⟩
    yields := fun i H v H' _ q y => by
      obtain ⟨Tn, x, h1, h2, h3, h4⟩ := y
      exact ⟨Tn, .int (i : Nat), x, h1, h2, h3, rfl, h4 xs q⟩ }
end KL

set_option Elab.async false
set_option maxRecDepth 100000
set_option maxHeartbeats 4000000
namespace KL
open PySem PySem.Spec PyProof.Rows L2 SX Evl
abbrev kS (l : List Nat) : Key := Sum.inr (S l)
theorem kS_inj {a b : List Nat} (h : kS a = kS b) : a = b := S_inj (Sum.inr.inj h)
theorem valV_none {κ : Type} [DecidableEq κ] : ∀ {kvs : List (κ × V)} {k : κ}, k ∉ kvs.map (·.1) → valV kvs k = none
  | [], _, _ => rfl
  | (k', v) :: r, k, h => by
    rw [valV_cons, if_neg (fun z => h (by rw [z]; exact List.mem_cons_self))]
    exact valV_none fun m => h (List.mem_cons_of_mem _ m)
/-- the keys of a dict that is filled with the words of a list -/
abbrev ones (l : List (List Nat)) : List (Key × V) := l.map fun x => (kS x, V.bl true)
theorem ones_keys (l : List (List Nat)) : (ones l).map (·.1) = l.map kS := by rw [List.map_map]; rfl
theorem ones_none {l : List (List Nat)} {x : List Nat} (h : x ∉ l) : valV (ones l) (kS x) = none := by
  refine valV_none ?_
  rw [ones_keys]
  intro m
  obtain ⟨y, hy, e⟩ := List.mem_map.mp m
  exact h (kS_inj e ▸ hy)
theorem ones_put {l : List (List Nat)} {x : List Nat} (h : x ∉ l) : putK (ones l) (kS x) (.bl true) = ones (l ++ [x]) := by
  rw [putK_new _ (ones_none h)]
  simp [ones]
theorem take_snoc {α : Type} {l : List α} {i : Nat} {x : α} (h : l[i]? = some x) : l.take (i + 1) = l.take i ++ [x] := by
  rw [List.take_add_one, h]
  rfl
/-- no name twice: the next one is new -/
theorem nd_new {α : Type} [DecidableEq α] {l : List α} {i : Nat} {x : α} (hn : l.Nodup) (h : l[i]? = some x) : x ∉ l.take i := by
  intro m
  obtain ⟨j, hj, e⟩ := List.mem_iff_getElem.mp m
  have hj2 : j < i := by
    rw [List.length_take] at hj
    omega
  have e2 : l[j]? = some x := by
    rw [List.getElem_take] at e
    rw [← e]
    exact List.getElem?_eq_getElem _
  have := nd_ix hn h e2
  omega
structure Gr.Ok (g : Gr) : Prop where
  ol : g.opts.length ≤ 24
  oo : ∀ o ∈ g.opts, o.ok = true
  on : (g.opts.map (·.name)).Nodup
  oz : ((g.opts.map (·.letter)).filter (fun l => decide (l ≠ []))).Nodup
  pl : g.pls.length ≤ 5
  po : ∀ p ∈ g.pls, nameOk p.1 = true ∧ p.2 ∈ arities
  pn : (g.pls.map (·.1)).Nodup
  pm : (g.pls.filter (fun p => decide (p.2 = aMany))).length ≤ 1
def spNeedLine (K : PySem.W.Frag) : Sp := spP 1 fun vs H v => ∃ (a : Addr) (ls : List (List Nat)), vs = [.ref a] ∧ SqT K H a (ls.map ss) ∧ ls.length ≤ 80 ∧ (∀ l ∈ ls, wordOk l = true) ∧ v = .ref a
def spOption (K : PySem.W.Frag) : Sp := spP 1 fun vs H v => ∃ (a : Addr) (o : Opt), vs = [.ref a] ∧ OptAt K H a o ∧ o.ok = true ∧ v = .bl true
def spPlace (K : PySem.W.Frag) : Sp := spP 1 fun vs H v => ∃ (a : Addr) (p : List Nat × List Nat), vs = [.ref a] ∧ PlAt K H a p ∧ nameOk p.1 = true ∧ p.2 ∈ arities ∧ v = .bl true
def spNeedOpts (K : PySem.W.Frag) : Sp := spP 1 fun vs H v => ∃ (a : Addr) (g : Gr), vs = [.ref a] ∧ OptsAt K H a g.opts ∧ g.Ok ∧ v = .non
def spNeedPls (K : PySem.W.Frag) : Sp := spP 1 fun vs H v => ∃ (a : Addr) (g : Gr), vs = [.ref a] ∧ PlsAt K H a g.pls ∧ g.Ok ∧ v = .non
def spNeedModes (K : PySem.W.Frag) : Sp := spP 1 fun vs H v => ∃ (a : Addr) (x y z : Bool), vs = [.ref a] ∧ SqT K H a [.bl x, .bl y, .bl z] ∧ v = .non
def spNeedGr (K : PySem.W.Frag) : Sp := spP 1 fun vs H v => ∃ (a : Addr) (g : Gr), vs = [.ref a] ∧ GrAt K H a g ∧ g.Ok ∧ v = .ref a
theorem wordLen {l : List Nat} (h : wordOk l = true) : l.length ≤ 1000 := by
  unfold wordOk at h
  have := of_decide_eq_true (Bool.and_eq_true_iff.mp h).1
  omega
theorem nameLen {l : List Nat} (h : nameOk l = true) : l.length ≤ 12 := by
  simp only [nameOk, Bool.and_eq_true] at h
  exact of_decide_eq_true h.1.1.1.2
theorem letterLen {l : List Nat} (h : letterOk l = true) : l.length ≤ 1 := of_decide_eq_true (Bool.and_eq_true_iff.mp h).1
end KL

set_option Elab.async false
set_option maxRecDepth 100000
set_option maxHeartbeats 4000000
/-! A dict from words to lists of words (owners), and the dict of the beginnings that only one name has. -/
namespace KL
open PySem PySem.Spec PyProof.Rows L2 SX Evl
/-- the words ts are the keys, in order; at each stands a list of its own, the words c t; nothing of H0 is touched -/
structure Rep (H0 H : Hp) (D : Addr) (ts : List (List Nat)) (ps : List Addr) (c : List Nat → List V) : Prop where
  ex : Ex H0 H
  dk : H D = some (.dK ((ts.zip ps).map fun tp => (kS tp.1, V.ref tp.2)))
  len : ps.length = ts.length
  nd : ts.Nodup
  nc : ∀ t, t ∉ ts → c t = []
  ne : ∀ t ∈ ts, c t ≠ []
  at_ : ∀ (i : Nat) (t : List Nat) (p : Addr), ts[i]? = some t → ps[i]? = some p → H p = some (.lst (c t))
  dp : ps.Nodup
  fr : ∀ p ∈ ps, H0 p = none
  nD : H0 D = none
theorem zip_at {ts : List (List Nat)} {ps : List Addr} (hl : ps.length = ts.length) : ∀ {k : List Nat} {i : Nat}, ts.Nodup → ts[i]? = some k → ∃ p, ps[i]? = some p ∧ valV ((ts.zip ps).map fun tp => (kS tp.1, V.ref tp.2)) (kS k) = some (.ref p) := by
  induction ts generalizing ps with
  | nil => intro k i _ h; simp at h
  | cons t r ih =>
    intro k i nd h
    match ps, hl with
    | p :: pr, hl =>
      have hl' : pr.length = r.length := by simpa using hl
      cases i with
      | zero =>
        have e : t = k := by simpa using h
        subst e
        refine ⟨p, rfl, ?_⟩
        rw [List.zip_cons_cons, List.map_cons, valV_cons, if_pos rfl]
      | succ i =>
        have h' : r[i]? = some k := by simpa using h
        obtain ⟨q, h1, h2⟩ := ih hl' (List.nodup_cons.mp nd).2 h'
        refine ⟨q, by simpa using h1, ?_⟩
        have ne : ¬ (kS t = kS k) := fun z => (List.nodup_cons.mp nd).1 (kS_inj z ▸ List.mem_of_getElem? h')
        rw [List.zip_cons_cons, List.map_cons, valV_cons, if_neg ne]
        exact h2
theorem zip_none {ts : List (List Nat)} {ps : List Addr} {k : List Nat} (h : k ∉ ts) : valV ((ts.zip ps).map fun tp => (kS tp.1, V.ref tp.2)) (kS k) = none := by
  refine valV_none fun m => ?_
  rw [List.map_map] at m
  obtain ⟨tp, hm, e⟩ := List.mem_map.mp m
  exact h (kS_inj (show kS tp.1 = kS k from e) ▸ (List.of_mem_zip hm).1)
/-- c with x put behind what stands at t -/
def more {α : Type} (c : List Nat → List α) (t : List Nat) (x : α) : List Nat → List α := fun u => if u = t then c u ++ [x] else c u
theorem Rep.old {H0 H : Hp} {D : Addr} {ts : List (List Nat)} {ps : List Addr} {c : List Nat → List V} (R : Rep H0 H D ts ps c) {t : List Nat} {x : V} (ht : t ∈ ts) :
    ∃ p, valV ((ts.zip ps).map fun tp => (kS tp.1, V.ref tp.2)) (kS t) = some (.ref p) ∧ H p = some (.lst (c t)) ∧ H0 p = none ∧ ∀ H1, Ex H H1 → Rep H0 (upd H1 p (.lst (c t ++ [x]))) D ts ps (more c t x) := by
  obtain ⟨i, hi, e⟩ := List.mem_iff_getElem.mp ht
  have ht2 : ts[i]? = some t := by rw [← e]; exact List.getElem?_eq_getElem hi
  obtain ⟨p, hp, hv⟩ := zip_at R.len R.nd ht2
  have hH := R.at_ i t p ht2 hp
  have hf := R.fr p (List.mem_of_getElem? hp)
  refine ⟨p, hv, hH, hf, fun H1 e1 => ?_⟩
  have nDp : D ≠ p := ne_of R.dk hH (by intro z; cases z)
  refine ⟨Ex.mut (R.ex.trans e1) hf, by rw [upd_ne nDp]; exact e1 _ _ R.dk, R.len, R.nd, fun u hu => ?_, fun u hu => ?_, fun j u q hj hq => ?_, R.dp, R.fr, R.nD⟩
  · unfold more
    rw [if_neg (show ¬ u = t from fun z => hu (by rw [z]; exact ht))]
    exact R.nc u hu
  · unfold more
    split
    · simp
    · exact R.ne u hu
  · unfold more
    by_cases hq2 : q = p
    · subst hq2
      have ij := nd_ix R.dp hq hp
      subst ij
      rw [ht2] at hj
      cases hj
      rw [upd_same, if_pos rfl]
    · have hut : u ≠ t := by
        intro z
        subst z
        have ij := nd_ix R.nd hj ht2
        subst ij
        rw [hp] at hq
        exact hq2 (Option.some.inj hq).symm
      rw [upd_ne hq2, if_neg hut]
      exact e1 _ _ (R.at_ j u q hj hq)
theorem Rep.new {H0 H : Hp} {D : Addr} {ts : List (List Nat)} {ps : List Addr} {c : List Nat → List V} (R : Rep H0 H D ts ps c) {t : List Nat} {x : V} (ht : t ∉ ts) {z : Addr} (hz : H z = none) :
    valV ((ts.zip ps).map fun tp => (kS tp.1, V.ref tp.2)) (kS t) = none ∧ z ≠ D ∧
    Rep H0 (upd (upd (upd H z (.lst [])) D (.dK (putK ((ts.zip ps).map fun tp => (kS tp.1, V.ref tp.2)) (kS t) (.ref z)))) z (.lst ([] ++ [x]))) D (ts ++ [t]) (ps ++ [z]) (more c t x) := by
  have hn := zip_none (ps := ps) ht
  have nzD : z ≠ D := fun e => by rw [e, R.dk] at hz; cases hz
  have zf : z ∉ ps := fun m => by
    obtain ⟨i, hi, e⟩ := List.mem_iff_getElem.mp m
    have h1 : ps[i]? = some z := by rw [← e]; exact List.getElem?_eq_getElem hi
    have h2 : i < ts.length := by rw [← R.len]; exact hi
    rw [R.at_ i ts[i] z (List.getElem?_eq_getElem h2) h1] at hz
    cases hz
  have z0 : H0 z = none := fresh_back R.ex hz
  refine ⟨hn, nzD, ?_⟩
  refine ⟨Ex.mut (Ex.mut (R.ex.trans (Ex.new hz)) R.nD) z0, ?_, by simp [R.len], ?_, fun u hu => ?_, fun u hu => ?_, fun j u q hj hq => ?_, ?_, fun q hq => ?_, R.nD⟩
  · rw [upd_ne (Ne.symm nzD), upd_same, putK_new _ hn, List.zip_append (by exact R.len.symm)]
    simp
  · exact nd_snoc R.nd ht
  · unfold more
    have h1 : u ≠ t := fun e => hu (by rw [e]; simp)
    rw [if_neg h1]
    exact R.nc u fun m => hu (List.mem_append_left _ m)
  · unfold more
    split
    · simp
    · rename_i h
      rcases List.mem_append.mp hu with m | m
      · exact R.ne u m
      · exact absurd (List.mem_singleton.mp m) h
  · unfold more
    by_cases hlt : j < ts.length
    · rw [List.getElem?_append_left hlt] at hj
      rw [List.getElem?_append_left (by rw [R.len]; exact hlt)] at hq
      have q1 : q ≠ z := fun e => zf (e ▸ List.mem_of_getElem? hq)
      have q2 : q ≠ D := by
        have := R.at_ j u q hj hq
        exact fun e => by rw [e, R.dk] at this; cases this
      have ut : u ≠ t := fun e => ht (e ▸ List.mem_of_getElem? hj)
      rw [upd_ne q1, upd_ne q2, upd_ne q1, if_neg ut]
      exact R.at_ j u q hj hq
    · have hle : ts.length ≤ j := by omega
      rw [List.getElem?_append_right hle] at hj
      rw [List.getElem?_append_right (by rw [R.len]; exact hle), R.len] at hq
      have j0 : j - ts.length = 0 := by
        have := (List.getElem?_eq_some_iff.mp hj).1
        simp at this
        omega
      rw [j0] at hj hq
      have e1 : t = u := by simpa using hj
      have e2 : z = q := by simpa using hq
      subst e1 e2
      rw [upd_same, if_pos rfl, R.nc t ht]
  · exact nd_snoc R.dp zf
  · rcases List.mem_append.mp hq with m | m
    · exact R.fr q m
    · rw [List.mem_singleton.mp m]; exact z0
theorem Rep.mono {H0 H H1 : Hp} {D : Addr} {ts : List (List Nat)} {ps : List Addr} {c : List Nat → List V} (R : Rep H0 H D ts ps c) (e : Ex H H1) : Rep H0 H1 D ts ps c :=
  ⟨R.ex.trans e, e _ _ R.dk, R.len, R.nd, R.nc, R.ne, fun i t p a b => e _ _ (R.at_ i t p a b), R.dp, R.fr, R.nD⟩
/-! ### beginnings -/
/-- t is a beginning of x, not empty -/
def begins (t x : List Nat) : Bool := decide (t ≠ []) && t.isPrefixOf x
/-- the only name that begins with t -/
def onlyOne (ns : List (List Nat)) (t : List Nat) : Option (List Nat) :=
  match ns.filter (begins t) with
  | [x] => some x
  | _ => none
/-- what stands at t when the first i names and e beginnings of the next, x, were taken -/
def owned (l : List (List Nat)) (x : List Nat) (e : Nat) (t : List Nat) : List (List Nat) := l.filter (begins t) ++ (if begins t x = true ∧ t.length ≤ e then [x] else [])
theorem begins_take {x : List Nat} {e : Nat} (h : e < x.length) : begins (x.take (e + 1)) x = true := by
  unfold begins
  rw [Bool.and_eq_true, decide_eq_true_eq, List.isPrefixOf_iff_prefix]
  refine ⟨fun z => ?_, List.take_prefix _ _⟩
  have h2 : (x.take (e + 1)).length = e + 1 := by rw [List.length_take]; omega
  rw [z] at h2
  simp at h2
theorem owned_step {l : List (List Nat)} {x : List Nat} {e : Nat} (h : e < x.length) : more (owned l x e) (x.take (e + 1)) x = owned l x (e + 1) := by
  funext t
  unfold more owned
  have lt : (x.take (e + 1)).length = e + 1 := by rw [List.length_take]; omega
  by_cases ht : t = x.take (e + 1)
  · subst ht
    rw [if_pos rfl, lt, if_neg (by omega), if_pos ⟨begins_take h, Nat.le_refl _⟩, List.append_nil]
  · rw [if_neg ht]
    congr 1
    by_cases hb : begins t x = true
    · have hp : t <+: x := by
        unfold begins at hb
        exact List.isPrefixOf_iff_prefix.mp (Bool.and_eq_true_iff.mp hb).2
      have hl : t.length ≠ e + 1 := fun z => ht (by rw [← z]; exact List.prefix_iff_eq_take.mp hp)
      by_cases h1 : t.length ≤ e
      · rw [if_pos ⟨hb, h1⟩, if_pos ⟨hb, by omega⟩]
      · rw [if_neg fun z => h1 z.2, if_neg fun z => by have := z.2; omega]
    · rw [if_neg fun z => hb z.1, if_neg fun z => hb z.1]
theorem more_map {c : List Nat → List (List Nat)} {t x : List Nat} : more (fun u => (c u).map ss) t (ss x) = fun u => (more c t x u).map ss := by
  funext u
  unfold more
  split
  · rw [List.map_append]; rfl
  · rfl
theorem owned_all (l : List (List Nat)) (x : List Nat) : owned l x x.length = fun t => (l ++ [x]).filter (begins t) := by
  funext t
  unfold owned
  rw [List.filter_append]
  congr 1
  by_cases hb : begins t x = true
  · have hp : t <+: x := by
      unfold begins at hb
      exact List.isPrefixOf_iff_prefix.mp (Bool.and_eq_true_iff.mp hb).2
    rw [if_pos ⟨hb, hp.length_le⟩]
    simp [hb]
  · rw [if_neg fun z => hb z.1]
    simp [hb]
theorem owned_zero (l : List (List Nat)) (x : List Nat) : owned l x 0 = fun t => l.filter (begins t) := by
  funext t
  unfold owned
  rw [if_neg, List.append_nil]
  rintro ⟨h1, h2⟩
  unfold begins at h1
  have := of_decide_eq_true (Bool.and_eq_true_iff.mp h1).1
  exact this (List.length_eq_zero_iff.mp (by omega))
/-- what a filled dict tells -/
theorem fold_val (F : List Nat → V) : ∀ (l : List (List Nat)) (acc : List (Key × V)) (t : List Nat), l.Nodup →
    valV (l.foldl (fun acc y => putK acc (kS y) (F y)) acc) (kS t) = if t ∈ l then some (F t) else valV acc (kS t)
  | [], acc, t, _ => by simp
  | y :: r, acc, t, nd => by
    obtain ⟨h1, h2⟩ := List.nodup_cons.mp nd
    rw [List.foldl_cons, fold_val F r _ t h2]
    have pv : valV (putK acc (kS y) (F y)) (kS t) = if t = y then some (F t) else valV acc (kS t) := by
      rw [valV_put]
      by_cases e : t = y
      · subst e
        rw [if_pos rfl, if_pos rfl]
      · rw [if_neg e, if_neg fun z => e (kS_inj z)]
    rw [pv]
    by_cases m : t ∈ r
    · rw [if_pos m, if_pos (List.mem_cons_of_mem _ m)]
    · rw [if_neg m]
      by_cases e : t = y
      · rw [if_pos e, if_pos (by rw [e]; exact List.mem_cons_self)]
      · rw [if_neg e, if_neg (fun z => (List.mem_cons.mp z).elim e m)]
def spOnly (K : PySem.W.Frag) : Sp := fun vs H Q _ => ∃ (a : Addr) (ns : List (List Nat)), vs = [.ref a] ∧ SqL K H a (ns.map ss) ∧ ns.length ≤ 24 ∧ (∀ n ∈ ns, n.length ≤ 12) ∧
  ∀ (D : Addr) (H' : Hp) (kvs : List (Key × V)), Ex H H' → H D = none → H' D = some (.dK kvs) → kvs.length ≤ 400 → (∀ t, valV kvs (kS t) = (onlyOne ns t).map ss) → Q (.ref D) H'
theorem Rep.start {H : Hp} {D : Addr} (h : H D = none) : Rep H (upd H D (.dK [])) D [] [] (fun _ => []) :=
  ⟨Ex.new h, upd_same, rfl, List.nodup_nil, fun _ _ => rfl, fun t m => absurd m List.not_mem_nil, fun i t p e => by simp at e, List.nodup_nil, fun p m => absurd m List.not_mem_nil, h⟩
theorem dec_int1 (n : Nat) : decide (V.int (n : Int) = V.int 1) = decide (n = 1) := by
  rw [Bool.eq_iff_iff]
  simp
  omega
theorem fold_len (F : List Nat → V) : ∀ (l : List (List Nat)) (acc : List (Key × V)), (l.foldl (fun acc y => putK acc (kS y) (F y)) acc).length ≤ acc.length + l.length
  | [], acc => by simp
  | y :: r, acc => by
    have h1 := fold_len F r (putK acc (kS y) (F y))
    have h2 : (putK acc (kS y) (F y)).length ≤ acc.length + 1 := by
      unfold putK
      split
      · rw [List.length_map]; omega
      · simp [List.length_append]
    rw [List.foldl_cons]
    rw [List.length_cons]
    omega
theorem only_val {ns ts : List (List Nat)} (nd : ts.Nodup) (nc : ∀ t, t ∉ ts → ns.filter (begins t) = []) (t : List Nat) :
    valV ((ts.filter fun u => decide ((ns.filter (begins u)).length = 1)).foldl (fun acc y => putK acc (kS y) (ss ((ns.filter (begins y)).headD []))) []) (kS t) = (onlyOne ns t).map ss := by
  rw [fold_val (fun y => ss ((ns.filter (begins y)).headD [])) _ _ _ (nd.filter _)]
  unfold onlyOne
  by_cases h : (ns.filter (begins t)).length = 1
  · obtain ⟨x, e⟩ := List.length_eq_one_iff.mp h
    have m : t ∈ ts := by
      by_cases m : t ∈ ts
      · exact m
      · rw [nc t m] at h
        simp at h
    rw [if_pos (List.mem_filter.mpr ⟨m, by simp [h]⟩), e]
    rfl
  · rw [if_neg fun z => h (by simpa using (List.mem_filter.mp z).2)]
    split
    · rename_i x e
      rw [e] at h
      simp at h
    · rfl
end KL

set_option Elab.async false
set_option maxRecDepth 100000
set_option maxHeartbeats 4000000
namespace KL
open PySem PySem.Spec PyProof.Rows L2 SX Evl
def Gr.names (g : Gr) : List (List Nat) := g.opts.map (·.name)
/-- the NAME that a string tells -/
def tellF (g : Gr) (t : List Nat) : Option (List Nat) := if t ∈ g.names then some t else if g.short then onlyOne g.names t else none
def readsNum (g : Gr) : Bool := g.minus && !(g.opts.any fun o => o.letter.any (mem sgFigure))
def arityCount (ps : List (List Nat × List Nat)) (ar : List Nat) : Nat := (ps.filter fun p => decide (p.2 = ar)).length
def dealOk (ps : List (List Nat × List Nat)) (n : Nat) : Bool := decide (arityCount ps aOne ≤ n) && (decide (n ≤ arityCount ps aOne + arityCount ps aMay) || decide (0 < arityCount ps aMany))
theorem OptsAt.get {K : PySem.W.Frag} {H : Hp} {as : List Addr} {os : List Opt} {i : Nat} {o : Opt} {x : V} (h : Paired (OptAt K H) as os) (ho : os[i]? = some o) (hx : (as.map V.ref)[i]? = some x) : ∃ ao, x = .ref ao ∧ OptAt K H ao o := by
  obtain ⟨ao, h1, h2⟩ := KL.Paired.at h ho
  rw [List.getElem?_map, h1] at hx
  exact ⟨ao, (Option.some.inj hx).symm, h2⟩
theorem PlsAt.get {K : PySem.W.Frag} {H : Hp} {as : List Addr} {os : List (List Nat × List Nat)} {i : Nat} {o : List Nat × List Nat} {x : V} (h : Paired (PlAt K H) as os) (ho : os[i]? = some o) (hx : (as.map V.ref)[i]? = some x) : ∃ ao, x = .ref ao ∧ PlAt K H ao o := by
  obtain ⟨ao, h1, h2⟩ := KL.Paired.at h ho
  rw [List.getElem?_map, h1] at hx
  exact ⟨ao, (Option.some.inj hx).symm, h2⟩
def spTold (K : PySem.W.Frag) : Sp := fun vs H Q _ => ∃ (a : Addr) (g : Gr), vs = [.ref a] ∧ GrAt K H a g ∧ g.Ok ∧
  ∀ (D : Addr) (H' : Hp) (kvs : List (Key × V)), Ex H H' → H D = none → H' D = some (.dK kvs) → kvs.length ≤ 500 → (∀ t, valV kvs (kS t) = (tellF g t).map ss) → Q (.ref D) H'
def spReadsNum (K : PySem.W.Frag) : Sp := spP 1 fun vs H v => ∃ (a : Addr) (g : Gr), vs = [.ref a] ∧ GrAt K H a g ∧ g.Ok ∧ v = .bl (readsNum g)
def spCountA (K : PySem.W.Frag) : Sp := spP 2 fun vs H v => ∃ (a : Addr) (ps : List (List Nat × List Nat)) (ar : List Nat), vs = [.ref a, ss ar] ∧ PlsAt K H a ps ∧ ps.length ≤ 5 ∧ v = .int (arityCount ps ar : Nat)
def spShares (K : PySem.W.Frag) : Sp := fun vs H Q _ => ∃ (a : Addr) (ps : List (List Nat × List Nat)) (n : Nat), vs = [.ref a, .int n] ∧ PlsAt K H a ps ∧ ps.length ≤ 5 ∧
  (dealOk ps n = false → ∀ H', Ex H H' → Q .non H') ∧ (dealOk ps n = true → ∀ p H', Ex H H' → Q (.ref p) H')
theorem flt_all {α : Type} (l : List α) : l.filter (fun _ => true) = l := List.filter_eq_self.mpr fun _ _ => rfl
end KL

set_option Elab.async false
set_option maxRecDepth 100000
set_option maxHeartbeats 4000000
/-! The reader: what it does with a grammar's data, and how its object looks. -/
namespace KL
open PySem PySem.Spec PyProof.Rows L2 SX Evl
/-- what one reading has come to -/
structure Rs where
  closed : Bool
  refused : Bool
  lasting : Bool
  awaited : Option (List Nat)
  got : List Nat → Nat
  placed : Nat
def kindF (g : Gr) (n : List Nat) : Option (List Nat) := (g.opts.find? fun o => decide (o.name = n)).map (·.kind)
def letterF (g : Gr) (l : List Nat) : Option (List Nat) := ((g.opts.filter fun o => decide (o.letter ≠ [])).find? fun o => decide (o.letter = l)).map (·.name)
def valueless (k : List Nat) : Bool := decide (k ∈ [kFlag, kCount])
def lone (k : List Nat) : Bool := decide (k ∈ [kFlag, kCount, kMaybe])
def kindOf (g : Gr) (n : List Nat) : List Nat := (kindF g n).getD []
def giveF (g : Gr) (n : List Nat) (s : Rs) : Rs :=
  { s with got := fun u => if u = n then s.got u + 1 else s.got u, refused := s.refused || (decide (kindOf g n = kOnce) && decide (1 < s.got n + 1)) }
def awaitF (g : Gr) (n : List Nat) (s : Rs) : Rs := if lone (kindOf g n) then giveF g n s else { s with awaited := some n }
def placeF (g : Gr) (s : Rs) : Rs := { s with placed := s.placed + 1, closed := s.closed || !g.mixed }
/-- what stands ahead of the first "=", and what stands behind it -/
def cutEq (l : List Nat) : List Nat × Option (List Nat) :=
  match TL.par [61] [] l with
  | some (p, q) => (p, some q)
  | none => (l, none)
def longF (g : Gr) (word : List Nat) (s : Rs) : Rs :=
  match tellF g (cutEq (word.drop 2)).1 with
  | none => { s with refused := true }
  | some n =>
    let s1 : Rs := if (cutEq (word.drop 2)).1 = n then s else { s with lasting := false }
    match (cutEq (word.drop 2)).2 with
    | none => awaitF g n s1
    | some _ => if valueless (kindOf g n) then { s1 with refused := true } else giveF g n s1
def lettersF (g : Gr) : List Nat → Rs → Rs
  | [], s => s
  | c :: r, s =>
    match letterF g [c] with
    | none => { s with refused := true }
    | some n => if valueless (kindOf g n) then lettersF g r (giveF g n s) else if r = [] then awaitF g n s else giveF g n s
def wordF (g : Gr) (word : List Nat) (s : Rs) : Rs :=
  match s.awaited with
  | some n => giveF g n { s with awaited := none }
  | none =>
    if s.closed then { s with placed := s.placed + 1 }
    else if !dashed word then placeF g s
    else if word = [45, 45] then { s with closed := true }
    else if word.take 2 = [45, 45] then longF g word s
    else if readsNum g && number word then placeF g { s with lasting := false }
    else lettersF g (word.drop 1) s
def rs0 : Rs := ⟨false, false, true, none, fun _ => 0, 0⟩
/-- all words, up to one that is refused -/
def lineF (g : Gr) : List (List Nat) → Rs → Rs
  | [], s => s
  | w :: r, s => if (wordF g w s).refused then wordF g w s else lineF g r (wordF g w s)
def acceptedF (g : Gr) (line : List (List Nat)) : Bool := !(lineF g line rs0).refused && (lineF g line rs0).awaited.isNone && dealOk g.pls (lineF g line rs0).placed
def lastsF (g : Gr) (line : List (List Nat)) : Bool := acceptedF g line && (lineF g line rs0).lasting
/-! ### the object -/
abbrev flds (dT dK dL ap dG pL : Addr) (mixed minus closed refused lasting : Bool) (aw : V) : List (Str × V) :=
  [("told", .ref dT), ("kinds", .ref dK), ("letters", .ref dL), ("places", .ref ap), ("mixed", .bl mixed), ("minus", .bl minus), ("closed", .bl closed), ("awaited", aw), ("refused", .bl refused), ("lasting", .bl lasting), ("got", .ref dG), ("placed", .ref pL)]
def aw : Option (List Nat) → V
  | none => .non
  | some n => ss n
theorem Rep.keep {H0 H H1 : Hp} {D : Addr} {ts : List (List Nat)} {ps : List Addr} {c : List Nat → List V} (R : Rep H0 H D ts ps c) (e : Ex H0 H1) (hD : H1 D = H D) (hp : ∀ p ∈ ps, H1 p = H p) : Rep H0 H1 D ts ps c :=
  ⟨e, by rw [hD]; exact R.dk, R.len, R.nd, R.nc, R.ne, fun i t p a b => by rw [hp p (List.mem_of_getElem? b)]; exact R.at_ i t p a b, R.dp, R.fr, R.nD⟩
/-- the reader at me, of the grammar g, has come to s; nothing of H0 is touched; m bounds the lengths -/
structure RdAt (K : PySem.W.Frag) (g : Gr) (C : Addr) (H0 H : Hp) (me dx dT dK dL ap dG pL : Addr) (ts : List (List Nat)) (ps : List Addr) (c : List Nat → List V) (s : Rs) (m : Nat) : Prop where
  ob : H me = some (.ins C dx (flds dT dK dL ap dG pL g.mixed (readsNum g) s.closed s.refused s.lasting (aw s.awaited)))
  fT : ∃ kv, H dT = some (.dK kv) ∧ ∀ t, valV kv (kS t) = (tellF g t).map ss
  fK : ∃ kv, H dK = some (.dK kv) ∧ ∀ t, valV kv (kS t) = (kindF g t).map ss
  fL : ∃ kv, H dL = some (.dK kv) ∧ ∀ t, valV kv (kS t) = (letterF g t).map ss
  pl : PlsAt K H0 ap g.pls
  rep : Rep H0 H dG ts ps c
  cn : ∀ n, (c n).length = s.got n
  cm : ∀ n, s.got n ≤ m
  tm : ts.length ≤ m
  pL_ : ∃ xs, H pL = some (.lst xs) ∧ xs.length = s.placed
  pm : s.placed ≤ m
  nT : dT ≠ dG
  nK : dK ≠ dG
  nL : dL ≠ dG
  np : pL ∉ ps
  f0 : H0 me = none
  f1 : H0 pL = none
  an : ∀ n, s.awaited = some n → (kindF g n).isSome = true
/-- some reader at me -/
def Rd_ (K : PySem.W.Frag) (g : Gr) (C : Addr) (H0 H : Hp) (me : Addr) (s : Rs) (m : Nat) : Prop := ∃ dx dT dK dL ap dG pL ts ps c, RdAt K g C H0 H me dx dT dK dL ap dG pL ts ps c s m
section
variable {K : PySem.W.Frag} {g : Gr} {C : Addr} {H0 H H1 : Hp} {me dx dT dK dL ap dG pL : Addr} {ts : List (List Nat)} {ps : List Addr} {c : List Nat → List V} {s : Rs} {m : Nat}
theorem RdAt.dk_ne (R : RdAt K g C H0 H me dx dT dK dL ap dG pL ts ps c s m) {d : Addr} {kv : List (Key × V)} (h : H d = some (.dK kv)) : d ≠ me ∧ d ≠ pL ∧ d ∉ ps := by
  obtain ⟨xs, hx, _⟩ := R.pL_
  refine ⟨ne_of h R.ob (by intro z; cases z), ne_of h hx (by intro z; cases z), fun z => ?_⟩
  obtain ⟨i, hi, e⟩ := List.mem_iff_getElem.mp z
  have h1 : ps[i]? = some d := by rw [← e]; exact List.getElem?_eq_getElem hi
  have h2 : i < ts.length := by rw [← R.rep.len]; exact hi
  rw [R.rep.at_ i ts[i] d (List.getElem?_eq_getElem h2) h1] at h
  cases h
theorem RdAt.self_ne (R : RdAt K g C H0 H me dx dT dK dL ap dG pL ts ps c s m) : me ≠ pL ∧ me ≠ dG ∧ me ∉ ps := by
  obtain ⟨xs, hx, _⟩ := R.pL_
  refine ⟨ne_of R.ob hx (by intro z; cases z), ne_of R.ob R.rep.dk (by intro z; cases z), fun z => ?_⟩
  obtain ⟨i, hi, e⟩ := List.mem_iff_getElem.mp z
  have h1 : ps[i]? = some me := by rw [← e]; exact List.getElem?_eq_getElem hi
  have h2 : i < ts.length := by rw [← R.rep.len]; exact hi
  have h3 := R.rep.at_ i ts[i] me (List.getElem?_eq_getElem h2) h1
  rw [R.ob] at h3
  cases h3
/-- all is kept -/
theorem RdAt.mono (R : RdAt K g C H0 H me dx dT dK dL ap dG pL ts ps c s m) (e : Ex H H1) : RdAt K g C H0 H1 me dx dT dK dL ap dG pL ts ps c s m :=
  { ob := e _ _ R.ob
    fT := let ⟨kv, a, b⟩ := R.fT; ⟨kv, e _ _ a, b⟩
    fK := let ⟨kv, a, b⟩ := R.fK; ⟨kv, e _ _ a, b⟩
    fL := let ⟨kv, a, b⟩ := R.fL; ⟨kv, e _ _ a, b⟩
    pl := R.pl
    rep := R.rep.mono e
    cn := R.cn
    cm := R.cm
    tm := R.tm
    pL_ := let ⟨xs, a, b⟩ := R.pL_; ⟨xs, e _ _ a, b⟩
    pm := R.pm
    nT := R.nT
    nK := R.nK
    nL := R.nL
    np := R.np
    f0 := R.f0
    f1 := R.f1
    an := R.an }
theorem RdAt.le (R : RdAt K g C H0 H me dx dT dK dL ap dG pL ts ps c s m) {m' : Nat} (h : m ≤ m') : RdAt K g C H0 H me dx dT dK dL ap dG pL ts ps c s m' :=
  { R with cm := fun n => Nat.le_trans (R.cm n) h, tm := Nat.le_trans R.tm h, pm := Nat.le_trans R.pm h }
/-- a field of the object is stored -/
theorem RdAt.store (R : RdAt K g C H0 H me dx dT dK dL ap dG pL ts ps c s m) {cl rf la : Bool} {a : Option (List Nat)} (ha : ∀ n, a = some n → (kindF g n).isSome = true) :
    RdAt K g C H0 (upd H me (.ins C dx (flds dT dK dL ap dG pL g.mixed (readsNum g) cl rf la (aw a)))) me dx dT dK dL ap dG pL ts ps c { s with closed := cl, refused := rf, lasting := la, awaited := a } m := by
  obtain ⟨kT, hT, vT⟩ := R.fT
  obtain ⟨kK, hK, vK⟩ := R.fK
  obtain ⟨kL, hL, vL⟩ := R.fL
  obtain ⟨xs, hx, lx⟩ := R.pL_
  obtain ⟨s1, s2, s3⟩ := R.self_ne
  exact
  { ob := upd_same
    fT := ⟨kT, by rw [upd_ne (R.dk_ne hT).1]; exact hT, vT⟩
    fK := ⟨kK, by rw [upd_ne (R.dk_ne hK).1]; exact hK, vK⟩
    fL := ⟨kL, by rw [upd_ne (R.dk_ne hL).1]; exact hL, vL⟩
    pl := R.pl
    rep := R.rep.keep (Ex.mut R.rep.ex R.f0) (upd_ne (Ne.symm s2)) fun p hp => upd_ne fun z => s3 (z ▸ hp)
    cn := R.cn
    cm := R.cm
    tm := R.tm
    pL_ := ⟨xs, by rw [upd_ne (Ne.symm s1)]; exact hx, lx⟩
    pm := R.pm
    nT := R.nT
    nK := R.nK
    nL := R.nL
    np := R.np
    f0 := R.f0
    f1 := R.f1
    an := ha }
/-- a word is placed -/
theorem RdAt.place (R : RdAt K g C H0 H me dx dT dK dL ap dG pL ts ps c s m) {xs : List V} (hx : H pL = some (.lst xs)) (x : V) :
    RdAt K g C H0 (upd H pL (.lst (xs ++ [x]))) me dx dT dK dL ap dG pL ts ps c { s with placed := s.placed + 1 } (m + 1) := by
  obtain ⟨kT, hT, vT⟩ := R.fT
  obtain ⟨kK, hK, vK⟩ := R.fK
  obtain ⟨kL, hL, vL⟩ := R.fL
  obtain ⟨xs', hx', lx⟩ := R.pL_
  rw [hx] at hx'
  cases hx'
  obtain ⟨s1, s2, s3⟩ := R.self_ne
  exact
  { ob := by rw [upd_ne s1]; exact R.ob
    fT := ⟨kT, by rw [upd_ne (R.dk_ne hT).2.1]; exact hT, vT⟩
    fK := ⟨kK, by rw [upd_ne (R.dk_ne hK).2.1]; exact hK, vK⟩
    fL := ⟨kL, by rw [upd_ne (R.dk_ne hL).2.1]; exact hL, vL⟩
    pl := R.pl
    rep := R.rep.keep (Ex.mut R.rep.ex R.f1) (upd_ne (R.dk_ne R.rep.dk).2.1) fun p hp => upd_ne fun z => R.np (z ▸ hp)
    cn := R.cn
    cm := fun n => Nat.le_succ_of_le (R.cm n)
    tm := Nat.le_succ_of_le R.tm
    pL_ := ⟨_, upd_same, by rw [List.length_append, lx]; rfl⟩
    pm := Nat.succ_le_succ R.pm
    nT := R.nT
    nK := R.nK
    nL := R.nL
    np := R.np
    f0 := R.f0
    f1 := R.f1
    an := R.an }
end
section
variable {K : PySem.W.Frag} {g : Gr} {C : Addr} {H0 H H2 : Hp} {me dx dT dK dL ap dG pL : Addr} {ts ts' : List (List Nat)} {ps ps' : List Addr} {c : List Nat → List V} {s : Rs} {m : Nat}
/-- something is given: the lists of the dict at dG have changed -/
theorem RdAt.gave (R : RdAt K g C H0 H me dx dT dK dL ap dG pL ts ps c s m) {n : List Nat} {x : V} (R2 : Rep H0 H2 dG ts' ps' (more c n x)) (kp : ∀ b o, H b = some o → b ≠ dG → b ∉ ps' → H2 b = some o)
    (hme : me ∉ ps') (hp : pL ∉ ps') (hd : ∀ d kv, H d = some (.dK kv) → d ∉ ps') (lt : ts'.length ≤ m + 1) :
    RdAt K g C H0 H2 me dx dT dK dL ap dG pL ts' ps' (more c n x) { s with got := fun u => if u = n then s.got u + 1 else s.got u } (m + 1) := by
  obtain ⟨kT, hT, vT⟩ := R.fT
  obtain ⟨kK, hK, vK⟩ := R.fK
  obtain ⟨kL, hL, vL⟩ := R.fL
  obtain ⟨xs, hx, lx⟩ := R.pL_
  obtain ⟨s1, s2, s3⟩ := R.self_ne
  exact
  { ob := kp _ _ R.ob s2 hme
    fT := ⟨kT, kp _ _ hT R.nT (hd _ _ hT), vT⟩
    fK := ⟨kK, kp _ _ hK R.nK (hd _ _ hK), vK⟩
    fL := ⟨kL, kp _ _ hL R.nL (hd _ _ hL), vL⟩
    pl := R.pl
    rep := R2
    cn := fun u => by
      show (more c n x u).length = if u = n then s.got u + 1 else s.got u
      unfold more
      by_cases h : u = n
      · rw [if_pos h, if_pos h, List.length_append, R.cn u]
        rfl
      · rw [if_neg h, if_neg h]
        exact R.cn u
    cm := fun u => by
      have := R.cm u
      show (if u = n then s.got u + 1 else s.got u) ≤ m + 1
      split
      · omega
      · omega
    tm := lt
    pL_ := ⟨xs, kp _ _ hx (Ne.symm (R.dk_ne R.rep.dk).2.1) hp, lx⟩
    pm := Nat.le_succ_of_le R.pm
    nT := R.nT
    nK := R.nK
    nL := R.nL
    np := hp
    f0 := R.f0
    f1 := R.f1
    an := R.an }
theorem lit_once_eq (k : List Nat) : decide (ss k = V.str "once") = decide (k = kOnce) := by rw [lit_once]; exact ss_eq
theorem in_valueless (k : List Nat) : inV (ss k) [.str "flag", .str "count"] = valueless k := by rw [valueless_lit]; exact inV_ss k _
theorem in_lone (k : List Nat) : inV (ss k) [.str "flag", .str "count", .str "maybe"] = lone k := by rw [lone_lit]; exact inV_ss k _
theorem kindOf_some {n : List Nat} (h : (kindF g n).isSome = true) : kindF g n = some (kindOf g n) := by
  unfold kindOf
  cases e : kindF g n with
  | none =>
    rw [e] at h
    cases h
  | some k => rfl
end
theorem lettersF_none {g : Gr} {c : Nat} {r : List Nat} {s : Rs} (h : letterF g [c] = none) : lettersF g (c :: r) s = { s with refused := true } := by
  show (match letterF g [c] with
    | none => { s with refused := true }
    | some n => if valueless (kindOf g n) then lettersF g r (giveF g n s) else if r = [] then awaitF g n s else giveF g n s) = _
  rw [h]
theorem lettersF_some {g : Gr} {c : Nat} {r : List Nat} {s : Rs} {n : List Nat} (h : letterF g [c] = some n) :
    lettersF g (c :: r) s = if valueless (kindOf g n) then lettersF g r (giveF g n s) else if r = [] then awaitF g n s else giveF g n s := by
  show (match letterF g [c] with
    | none => { s with refused := true }
    | some n => if valueless (kindOf g n) then lettersF g r (giveF g n s) else if r = [] then awaitF g n s else giveF g n s) = _
  rw [h]
theorem wordF_none {g : Gr} {w : List Nat} {s : Rs} (h : s.awaited = none) : wordF g w s = if s.closed then { s with placed := s.placed + 1 }
    else if !dashed w then placeF g s
    else if w = [45, 45] then { s with closed := true }
    else if w.take 2 = [45, 45] then longF g w s
    else if readsNum g && number w then placeF g { s with lasting := false }
    else lettersF g (w.drop 1) s := by
  unfold wordF
  split
  · rename_i n hn
    rw [h] at hn
    cases hn
  · rfl
theorem wordF_some {g : Gr} {w n : List Nat} {s : Rs} (h : s.awaited = some n) : wordF g w s = giveF g n { s with awaited := none } := by
  unfold wordF
  split
  · rename_i n' hn
    rw [h] at hn
    cases hn
    rfl
  · rename_i hn
    rw [h] at hn
    cases hn
theorem kindF_of {g : Gr} {n : List Nat} (h : n ∈ g.names) : (kindF g n).isSome = true := by
  obtain ⟨o, ho, rfl⟩ := List.mem_map.mp h
  unfold kindF
  rw [Option.isSome_map, List.find?_isSome]
  exact ⟨o, ho, by simp⟩
theorem letterF_kind {g : Gr} {l n : List Nat} (h : letterF g l = some n) : (kindF g n).isSome = true := by
  unfold letterF at h
  obtain ⟨o, ho, rfl⟩ := Option.map_eq_some_iff.mp h
  have := List.mem_of_find?_eq_some ho
  exact kindF_of (List.mem_map.mpr ⟨o, (List.mem_filter.mp this).1, rfl⟩)
theorem tellF_kind {g : Gr} {t n : List Nat} (h : tellF g t = some n) : (kindF g n).isSome = true := by
  unfold tellF at h
  by_cases m : t ∈ g.names
  · rw [if_pos m] at h
    cases h
    exact kindF_of m
  · rw [if_neg m] at h
    cases hs : g.short with
    | false =>
      rw [hs] at h
      exact nomatch h
    | true =>
      rw [hs] at h
      have h : onlyOne g.names t = some n := h
      unfold onlyOne at h
      split at h
      · rename_i x e
        cases h
        have : n ∈ g.names.filter (begins t) := by rw [e]; exact List.mem_singleton.mpr rfl
        exact kindF_of (List.mem_filter.mp this).1
      · cases h
/-- what the class says of itself -/
structure RdC (K : PySem.W.Frag) (C : Addr) : Prop where
  cl : Cls K C
  told : NoAttr K C "told"
  kinds : NoAttr K C "kinds"
  letters : NoAttr K C "letters"
  places : NoAttr K C "places"
  mixed : NoAttr K C "mixed"
  minus : NoAttr K C "minus"
  closed : NoAttr K C "closed"
  awaited : NoAttr K C "awaited"
  refused : NoAttr K C "refused"
  lasting : NoAttr K C "lasting"
  got : NoAttr K C "got"
  placed : NoAttr K C "placed"
/-! ### promises of the methods -/
def spGive (K : PySem.W.Frag) (C : Addr) : Sp := fun vs H Q _ => ∃ (g : Gr) (H0 : Hp) (me : Addr) (n : List Nat) (x : V) (s : Rs) (m : Nat), vs = [.ref me, ss n, x] ∧ Rd_ K g C H0 H me s m ∧ m < 50000 ∧ (kindF g n).isSome = true ∧ (∀ n, s.awaited = some n → (kindF g n).isSome = true) ∧
  ∀ H', Rd_ K g C H0 H' me (giveF g n s) (m + 1) → Q .non H'
def spAwait (K : PySem.W.Frag) (C : Addr) : Sp := fun vs H Q _ => ∃ (g : Gr) (H0 : Hp) (me : Addr) (n : List Nat) (s : Rs) (m : Nat), vs = [.ref me, ss n] ∧ Rd_ K g C H0 H me s m ∧ m < 50000 ∧ (kindF g n).isSome = true ∧
  ∀ H', Rd_ K g C H0 H' me (awaitF g n s) (m + 1) → Q .non H'
def spPlaceW (K : PySem.W.Frag) (C : Addr) : Sp := fun vs H Q _ => ∃ (g : Gr) (H0 : Hp) (me : Addr) (x : V) (s : Rs) (m : Nat), vs = [.ref me, x] ∧ Rd_ K g C H0 H me s m ∧ m < 50000 ∧
  ∀ H', Rd_ K g C H0 H' me (placeF g s) (m + 1) → Q .non H'
def spLong (K : PySem.W.Frag) (C : Addr) : Sp := fun vs H Q _ => ∃ (g : Gr) (H0 : Hp) (me : Addr) (l : List Nat) (s : Rs) (m : Nat), vs = [.ref me, ss l] ∧ g.Ok ∧ l.length ≤ 1000 ∧ Rd_ K g C H0 H me s m ∧ m < 50000 ∧
  ∀ H', Rd_ K g C H0 H' me (longF g l s) (m + 1) → Q .non H'
def spLetters (K : PySem.W.Frag) (C : Addr) : Sp := fun vs H Q _ => ∃ (g : Gr) (H0 : Hp) (me : Addr) (l : List Nat) (s : Rs) (m : Nat), vs = [.ref me, ss l] ∧ g.Ok ∧ 1 ≤ l.length ∧ l.length ≤ 100 ∧ Rd_ K g C H0 H me s m ∧ m < 40000 ∧
  ∀ H', Rd_ K g C H0 H' me (lettersF g (l.drop 1) s) (m + 100) → Q .non H'
def spWordM (K : PySem.W.Frag) (C : Addr) : Sp := fun vs H Q _ => ∃ (g : Gr) (H0 : Hp) (me : Addr) (l : List Nat) (s : Rs) (m : Nat), vs = [.ref me, ss l] ∧ g.Ok ∧ l.length ≤ 100 ∧ Rd_ K g C H0 H me s m ∧ m < 40000 ∧
  ∀ H', Rd_ K g C H0 H' me (wordF g l s) (m + 100) → Q .non H'
/-- all but what stands at me is kept -/
def ExB (me : Addr) (H H' : Hp) : Prop := ∀ b o, b ≠ me → H b = some o → H' b = some o
theorem ExB.of {me : Addr} {H H' : Hp} (e : Ex H H') : ExB me H H' := fun b o _ h => e b o h
theorem ExB.put {me : Addr} {H : Hp} {o : HO} : ExB me H (upd H me o) := fun b u hb h => by rw [upd_ne hb]; exact h
theorem ExB.trans {me : Addr} {H H1 H2 : Hp} (a : ExB me H H1) (b : ExB me H1 H2) : ExB me H H2 := fun c o hc h => b c o hc (a c o hc h)
theorem ExB.ex {me : Addr} {H0 H H1 : Hp} (e : Ex H0 H) (n : H0 me = none) (a : ExB me H H1) : Ex H0 H1 := fun b o h => a b o (ne_of_none h n) (e b o h)
/-- a dict made of items told by their keys -/
theorem fold_find {α : Type} (kf : α → List Nat) (F : α → V) : ∀ (l : List α) (acc : List (Key × V)) (t : List Nat), (l.map kf).Nodup →
    valV (l.foldl (fun acc y => putK acc (kS (kf y)) (F y)) acc) (kS t) = match l.find? (fun o => decide (kf o = t)) with
      | some o => some (F o)
      | none => valV acc (kS t)
  | [], acc, t, _ => rfl
  | y :: r, acc, t, nd => by
    have nd' : (kf y :: r.map kf).Nodup := nd
    obtain ⟨h1, h2⟩ := List.nodup_cons.mp nd'
    rw [List.foldl_cons, fold_find kf F r _ t h2, List.find?_cons]
    by_cases e : kf y = t
    · rw [decide_eq_true e]
      have hn : r.find? (fun o => decide (kf o = t)) = none := by
        rw [List.find?_eq_none]
        intro o ho hc
        have := of_decide_eq_true hc
        exact h1 (List.mem_map.mpr ⟨o, ho, by rw [this, e]⟩)
      rw [hn]
      show valV (putK acc (kS (kf y)) (F y)) (kS t) = some (F y)
      rw [valV_put, if_pos (by rw [e])]
    · rw [decide_eq_false e]
      cases hf : r.find? (fun o => decide (kf o = t)) with
      | some o => rfl
      | none =>
        show valV (putK acc (kS (kf y)) (F y)) (kS t) = valV acc (kS t)
        rw [valV_put, if_neg fun z => e (kS_inj z).symm]
theorem kinds_val {g : Gr} (ok : g.Ok) (t : List Nat) : valV ((g.opts.filter fun _ => true).foldl (fun acc y => putK acc (kS y.name) (ss y.kind)) []) (kS t) = (kindF g t).map ss := by
  rw [flt_all, fold_find (fun o : Opt => o.name) (fun o => ss o.kind) g.opts [] t ok.on]
  unfold kindF
  cases g.opts.find? (fun o => decide (o.name = t)) <;> rfl
theorem letters_val {g : Gr} (ok : g.Ok) (t : List Nat) : valV ((g.opts.filter fun o => decide (o.letter ≠ [])).foldl (fun acc y => putK acc (kS y.letter) (ss y.name)) []) (kS t) = (letterF g t).map ss := by
  have nd : ((g.opts.filter fun o => decide (o.letter ≠ [])).map (·.letter)).Nodup := by
    have h := ok.oz
    rw [List.filter_map] at h
    exact h
  rw [fold_find (fun o : Opt => o.letter) (fun o => ss o.name) _ [] t nd]
  unfold letterF
  cases (g.opts.filter fun o => decide (o.letter ≠ [])).find? (fun o => decide (o.letter = t)) <;> rfl
def spInitR (K : PySem.W.Frag) (C : Addr) : Sp := fun vs H Q _ => ∃ (g : Gr) (H0 : Hp) (me dx a : Addr), vs = [.ref me, .ref a] ∧ H me = some (.ins C dx []) ∧ Ex H0 H ∧ H0 me = none ∧ GrAt K H0 a g ∧ g.Ok ∧
  ∀ H', Rd_ K g C H0 H' me rs0 0 → Q .non H'
def spReadingOf (K : PySem.W.Frag) (C : Addr) : Sp := fun vs H Q _ => ∃ (g : Gr) (a b : Addr) (line : List (List Nat)), vs = [.ref a, .ref b] ∧ GrAt K H a g ∧ g.Ok ∧ SqT K H b (line.map ss) ∧ line.length ≤ 80 ∧ (∀ l ∈ line, l.length ≤ 80) ∧
  (acceptedF g line = false → ∀ H', Ex H H' → Q .non H') ∧ (acceptedF g line = true → ∀ (me : Addr) (H' : Hp) (m : Nat), Rd_ K g C H H' me (lineF g line rs0) m → Q (.ref me) H')
def spLasts (K : PySem.W.Frag) : Sp := spP 2 fun vs H v => ∃ (g : Gr) (a b : Addr) (line : List (List Nat)), vs = [.ref a, .ref b] ∧ GrAt K H a g ∧ g.Ok ∧ SqT K H b (line.map ss) ∧ line.length ≤ 80 ∧ (∀ l ∈ line, wordOk l = true) ∧ v = .bl (lastsF g line)
end KL

set_option Elab.async false
set_option maxRecDepth 100000
set_option maxHeartbeats 4000000
/-! Rows of lines with flags, laid in the heap; how displays of them evaluate. -/
namespace KL
open PySem PySem.Spec PyProof.Rows L2 SX Evl
abbrev Row := List (List Nat) × List Bool
def RowAt (K : PySem.W.Frag) (H : Hp) (a : Addr) (r : Row) : Prop := ∃ b, SqT K H a (.ref b :: r.2.map V.bl) ∧ SqT K H b (r.1.map ss)
theorem RowAt.mono {K : PySem.W.Frag} {H H' : Hp} {a : Addr} {r : Row} (e : Ex H H') (h : RowAt K H a r) : RowAt K H' a r := by
  obtain ⟨b, h1, h2⟩ := h
  exact ⟨b, ex_t e h1, ex_t e h2⟩
def RowsL (K : PySem.W.Frag) (H : Hp) (R : Addr) (rs : List Row) : Prop := ∃ as : List Addr, H R = some (.lst (as.map V.ref)) ∧ Paired (RowAt K H) as rs
theorem RowsL.mono {K : PySem.W.Frag} {H H' : Hp} {a : Addr} {rs : List Row} (e : Ex H H') (h : RowsL K H a rs) : RowsL K H' a rs := by
  obtain ⟨as, h1, h2⟩ := h
  exact ⟨as, e _ _ h1, L2.Paired.mapP h2 fun _ _ z => RowAt.mono e z⟩
def EvR (K : PySem.W.Frag) (te : TE) (σ : L2.St) (H : Hp) (r : Row) : Prop := ∀ H1, Ex H H1 → ∀ Q : VK, (∀ a H2, Ex H1 H2 → RowAt K H2 a r → Q (.ref a) H2) → te σ H1 Q
def EvRs (K : PySem.W.Frag) (ta : TA) (σ : L2.St) (H : Hp) (rs : List Row) : Prop := ∀ H1, Ex H H1 → ∀ Q : List V → Hp → Prop, (∀ as H2, Ex H1 H2 → Paired (RowAt K H2) as rs → Q (as.map V.ref) H2) → ta σ H1 Q
def EvRL (K : PySem.W.Frag) (te : TE) (σ : L2.St) (H : Hp) (rs : List Row) : Prop := ∀ H1, Ex H H1 → ∀ Q : VK, (∀ R H2, Ex H1 H2 → RowsL K H2 R rs → Q (.ref R) H2) → te σ H1 Q
section
variable {K : PySem.W.Frag} {σ : L2.St} {H : Hp} {ta tb : TA} {te tf : TE}
theorem ev_lit {x : Str} {l : List Nat} (h : V.str x = ss l) : Ev (tC (V.str x)) σ H (ss l) := ev_is ev_c h
theorem ev_cat {x y : List Nat} (ha : Ev te σ H (ss x)) (hb : Ev tf σ H (ss y)) (hz : x.length + y.length ≤ 1000) :
    Ev (tOp (fun x y H Q => ∃ i j, x = V.str i ∧ y = V.str j ∧ i.length + j.length ≤ sizeLine ∧ Q (V.str (i ++ j)) H) te tf) σ H (ss (x ++ y)) :=
  ev_op ha hb fun H1 _ Q q => ⟨S x, S y, rfl, rfl, by rw [S_len, S_len]; exact Nat.le_of_lt (small1000 hz), by
    rw [S_cat]
    exact q H1 (Ex.refl H1)⟩
theorem rs_nil : EvRs K tNil σ H [] := fun H1 _ _ q => q [] H1 (Ex.refl H1) .nil
theorem rs_cons {r : Row} {rs : List Row} (h : EvR K te σ H r) (hr : EvRs K ta σ H rs) : EvRs K (tCons te ta) σ H (r :: rs) := fun H1 e Q q =>
  h H1 e _ fun a H2 e2 h2 => hr H2 (e.trans e2) _ fun as H3 e3 h3 => q (a :: as) H3 (e2.trans e3) (.cons (h2.mono e3) h3)
theorem ev_row {r : Row} (h1 : EvA ta σ H (r.1.map ss)) (h2 : EvA tb σ H (r.2.map V.bl)) (hz : r.1.length ≤ 100) (hz2 : r.2.length = 4 := by rfl) : EvR K (tTup (tCons (tTup ta) tb)) σ H r := fun H1 e Q q => by
  have key : tTup ta σ H1 (fun x H2 => tb σ H2 fun xs H3 => (x :: xs).length ≤ sizeLine ∧ ∀ p, H3 p = none → Q (.ref p) (upd H3 p (.tup (x :: xs)))) := by
    refine eu_tup h1 (by rw [List.length_map]; omega) H1 e _ fun p H2 _ e2 hp => ?_
    refine h2 H2 (e.trans e2) _ fun H3 e3 => ?_
    refine ⟨sz_of (by simp; omega), fun a ha => ?_⟩
    exact q a _ ((e2.trans e3).trans (Ex.new ha)) ⟨p, st_of upd_same, ex_t (e3.trans (Ex.new ha)) (st_of hp)⟩
  exact key
theorem rl_lst {rs : List Row} (h : EvRs K ta σ H rs) (hz : rs.length ≤ 100) : EvRL K (tLst ta) σ H rs := fun H1 e Q q =>
  h H1 e _ fun as H2 e2 h2 => by
    have ln : as.length = rs.length := h2.length
    refine ⟨sz_of (by rw [List.length_map]; omega), fun R hR => ?_⟩
    exact q R _ (e2.trans (Ex.new hR)) ⟨as, upd_same, L2.Paired.mapP h2 fun _ _ z => RowAt.mono (Ex.new hR) z⟩
theorem paired_app {α β : Type} {R : α → β → Prop} : ∀ {as : List α} {bs : List β} {as' : List α} {bs' : List β}, Paired R as bs → Paired R as' bs' → Paired R (as ++ as') (bs ++ bs')
  | _, _, _, _, .nil, h => h
  | _, _, _, _, .cons r t, h => .cons r (paired_app t h)
theorem rl_cat {rs rs2 : List Row} (h : EvRL K te σ H rs) (h2 : EvRL K tf σ H rs2) (hz : rs.length + rs2.length ≤ 1000) : EvRL K (tOp rCat te tf) σ H (rs ++ rs2) := fun H1 e Q q =>
  h H1 e _ fun R H2 e2 ⟨as, hR, hp⟩ => h2 H2 (e.trans e2) _ fun R2 H3 e3 ⟨as2, hR2, hp2⟩ => by
    have l1 : as.length = rs.length := hp.length
    have l2 : as2.length = rs2.length := hp2.length
    refine ⟨R, R2, _, _, rfl, rfl, e3 _ _ hR, hR2, sz_of (by rw [List.length_map, List.length_map]; omega), fun p hpn => ?_⟩
    refine q p _ ((e2.trans e3).trans (Ex.new hpn)) ⟨as ++ as2, by rw [upd_same, List.map_append], ?_⟩
    refine paired_app (L2.Paired.mapP hp fun _ _ z => RowAt.mono (e3.trans (Ex.new hpn)) z) (L2.Paired.mapP hp2 fun _ _ z => RowAt.mono (Ex.new hpn) z)
theorem rl_var {i : Nat} {R : Addr} {rs : List Row} (h : σ[i]? = some (some (.ref R))) (hR : RowsL K H R rs) : EvRL K (tVar i) σ H rs := fun H1 e Q q => ⟨.ref R, h, q R H1 (Ex.refl H1) (hR.mono e)⟩
end
theorem seq_rows {K : PySem.W.Frag} {te : TE} {i : Nat} {u : TS} {D : Ends} {σ : L2.St} {H : Hp} {rs : List Row} (σ' : Addr → L2.St) (h : EvRL K te σ H rs) (k : ∀ R H2, Ex H H2 → RowsL K H2 R rs → u D (σ' R) H2) (hσ : ∀ R, σ.set i (some (.ref R)) = σ' R) : tSeq (tAsg te (gName i)) u D σ H :=
  h H (Ex.refl _) _ fun R H2 e r => by
    have z := k R H2 e r
    rw [← hσ R] at z
    exact z
theorem ret_rows {K : PySem.W.Frag} {te : TE} {D : Ends} {σ : L2.St} {H : Hp} {rs : List Row} (h : EvRL K te σ H rs) (k : ∀ R H2, Ex H H2 → RowsL K H2 R rs → D.rt (.ref R) H2) : tRet te D σ H :=
  h H (Ex.refl _) _ fun R H2 e r => k R H2 e r
/-- the law's rows: lines, and whether they last by its four grammars -/
def rowsP0 (nm2 c d sh vl zz : List Nat) : List (List (List Nat) × List Bool) := [([nm2, [45, 53]], [true, true, true, true]), ([([45, 45] ++ sh), vl], [false, false, false, false])]
def rowsP1 (nm2 c d sh vl zz : List Nat) : List (List (List Nat) × List Bool) := [([((nm2 ++ [61]) ++ vl)], [true, true, true, true]), ([(([45, 45] ++ sh) ++ [61])], [false, false, false, false])]
def rowsP2 (nm2 c d sh vl zz : List Nat) : List (List (List Nat) × List Bool) := [([(([45] ++ c) ++ [118])], [true, true, true, true]), ([(([45] ++ d) ++ d)], [true, true, true, true])]
def rowsP3 (nm2 c d sh vl zz : List Nat) : List (List (List Nat) × List Bool) := [([(([45] ++ d) ++ c), [45, 53]], [true, true, true, true]), ([[119], [45, 53]], [false, true, false, false])]
def rowsP4 (nm2 c d sh vl zz : List Nat) : List (List (List Nat) × List Bool) := [([[45, 53]], [false, false, false, false]), ([[45, 45], [45, 53]], [true, true, true, true])]
def rowsP5 (nm2 c d sh vl zz : List Nat) : List (List (List Nat) × List Bool) := [([[45]], [true, true, true, true]), ([[]], [true, true, true, true]), ([], [true, true, true, true])]
def rowsP6 (nm2 c d sh vl zz : List Nat) : List (List (List Nat) × List Bool) := [([[45, 45], ([45, 45] ++ sh)], [true, true, true, true]), ([nm2, ([45, 45] ++ sh)], [true, true, true, true])]
def rowsP7 (nm2 c d sh vl zz : List Nat) : List (List (List Nat) × List Bool) := [([nm2, [45, 45], [45, 53]], [false, false, false, false]), ([nm2], [false, false, false, false])]
def rowsP8 (nm2 c d sh vl zz : List Nat) : List (List (List Nat) × List Bool) := [([[119], (([45, 45] ++ sh) ++ [61])], [false, true, false, false]), ([[119], (nm2 ++ [61])], [true, true, true, true])]
def rowsP9 (nm2 c d sh vl zz : List Nat) : List (List (List Nat) × List Bool) := [([((([45] ++ c) ++ [45, 45]) ++ sh)], [true, true, true, true]), ([([45, 45] ++ zz)], [true, true, true, true])]
def rowsP10 (nm2 c d sh vl zz : List Nat) : List (List (List Nat) × List Bool) := [([nm2, vl, ([45, 45] ++ sh), vl], [false, false, false, false])]
def rowsP11 (nm2 c d sh vl zz : List Nat) : List (List (List Nat) × List Bool) := [([[45, 45, 61]], [false, false, false, false]), ([(([45] ++ c) ++ c), ([45] ++ d)], [true, true, true, true])]
def rowsP12 (nm2 c d sh vl zz : List Nat) : List (List (List Nat) × List Bool) := [([[45, 45], [45, 45], ([45] ++ vl)], [true, true, true, true]), ([([45] ++ d), [45], [46]], [true, true, true, true])]
def rowsU0 (nm2 c d sh vl zz : List Nat) : List Row := rowsP0 nm2 c d sh vl zz
def rowsU1 (nm2 c d sh vl zz : List Nat) : List Row := rowsU0 nm2 c d sh vl zz ++ rowsP1 nm2 c d sh vl zz
def rowsU2 (nm2 c d sh vl zz : List Nat) : List Row := rowsU1 nm2 c d sh vl zz ++ rowsP2 nm2 c d sh vl zz
def rowsU3 (nm2 c d sh vl zz : List Nat) : List Row := rowsU2 nm2 c d sh vl zz ++ rowsP3 nm2 c d sh vl zz
def rowsU4 (nm2 c d sh vl zz : List Nat) : List Row := rowsU3 nm2 c d sh vl zz ++ rowsP4 nm2 c d sh vl zz
def rowsU5 (nm2 c d sh vl zz : List Nat) : List Row := rowsU4 nm2 c d sh vl zz ++ rowsP5 nm2 c d sh vl zz
def rowsU6 (nm2 c d sh vl zz : List Nat) : List Row := rowsU5 nm2 c d sh vl zz ++ rowsP6 nm2 c d sh vl zz
def rowsU7 (nm2 c d sh vl zz : List Nat) : List Row := rowsU6 nm2 c d sh vl zz ++ rowsP7 nm2 c d sh vl zz
def rowsU8 (nm2 c d sh vl zz : List Nat) : List Row := rowsU7 nm2 c d sh vl zz ++ rowsP8 nm2 c d sh vl zz
def rowsU9 (nm2 c d sh vl zz : List Nat) : List Row := rowsU8 nm2 c d sh vl zz ++ rowsP9 nm2 c d sh vl zz
def rowsU10 (nm2 c d sh vl zz : List Nat) : List Row := rowsU9 nm2 c d sh vl zz ++ rowsP10 nm2 c d sh vl zz
def rowsU11 (nm2 c d sh vl zz : List Nat) : List Row := rowsU10 nm2 c d sh vl zz ++ rowsP11 nm2 c d sh vl zz
def rowsU12 (nm2 c d sh vl zz : List Nat) : List Row := rowsU11 nm2 c d sh vl zz ++ rowsP12 nm2 c d sh vl zz
theorem lU0 {nm2 c d sh vl zz : List Nat} : (rowsU0 nm2 c d sh vl zz).length = 2 := rfl
theorem lP0 {nm2 c d sh vl zz : List Nat} : (rowsP0 nm2 c d sh vl zz).length = 2 := rfl
theorem lU1 {nm2 c d sh vl zz : List Nat} : (rowsU1 nm2 c d sh vl zz).length = 4 := rfl
theorem lP1 {nm2 c d sh vl zz : List Nat} : (rowsP1 nm2 c d sh vl zz).length = 2 := rfl
theorem lU2 {nm2 c d sh vl zz : List Nat} : (rowsU2 nm2 c d sh vl zz).length = 6 := rfl
theorem lP2 {nm2 c d sh vl zz : List Nat} : (rowsP2 nm2 c d sh vl zz).length = 2 := rfl
theorem lU3 {nm2 c d sh vl zz : List Nat} : (rowsU3 nm2 c d sh vl zz).length = 8 := rfl
theorem lP3 {nm2 c d sh vl zz : List Nat} : (rowsP3 nm2 c d sh vl zz).length = 2 := rfl
theorem lU4 {nm2 c d sh vl zz : List Nat} : (rowsU4 nm2 c d sh vl zz).length = 10 := rfl
theorem lP4 {nm2 c d sh vl zz : List Nat} : (rowsP4 nm2 c d sh vl zz).length = 2 := rfl
theorem lU5 {nm2 c d sh vl zz : List Nat} : (rowsU5 nm2 c d sh vl zz).length = 13 := rfl
theorem lP5 {nm2 c d sh vl zz : List Nat} : (rowsP5 nm2 c d sh vl zz).length = 3 := rfl
theorem lU6 {nm2 c d sh vl zz : List Nat} : (rowsU6 nm2 c d sh vl zz).length = 15 := rfl
theorem lP6 {nm2 c d sh vl zz : List Nat} : (rowsP6 nm2 c d sh vl zz).length = 2 := rfl
theorem lU7 {nm2 c d sh vl zz : List Nat} : (rowsU7 nm2 c d sh vl zz).length = 17 := rfl
theorem lP7 {nm2 c d sh vl zz : List Nat} : (rowsP7 nm2 c d sh vl zz).length = 2 := rfl
theorem lU8 {nm2 c d sh vl zz : List Nat} : (rowsU8 nm2 c d sh vl zz).length = 19 := rfl
theorem lP8 {nm2 c d sh vl zz : List Nat} : (rowsP8 nm2 c d sh vl zz).length = 2 := rfl
theorem lU9 {nm2 c d sh vl zz : List Nat} : (rowsU9 nm2 c d sh vl zz).length = 21 := rfl
theorem lP9 {nm2 c d sh vl zz : List Nat} : (rowsP9 nm2 c d sh vl zz).length = 2 := rfl
theorem lU10 {nm2 c d sh vl zz : List Nat} : (rowsU10 nm2 c d sh vl zz).length = 22 := rfl
theorem lP10 {nm2 c d sh vl zz : List Nat} : (rowsP10 nm2 c d sh vl zz).length = 1 := rfl
theorem lU11 {nm2 c d sh vl zz : List Nat} : (rowsU11 nm2 c d sh vl zz).length = 24 := rfl
theorem lP11 {nm2 c d sh vl zz : List Nat} : (rowsP11 nm2 c d sh vl zz).length = 2 := rfl
theorem lU12 {nm2 c d sh vl zz : List Nat} : (rowsU12 nm2 c d sh vl zz).length = 26 := rfl
theorem lP12 {nm2 c d sh vl zz : List Nat} : (rowsP12 nm2 c d sh vl zz).length = 2 := rfl
def rowsF (nm2 c d sh vl zz : List Nat) : List Row := rowsU12 nm2 c d sh vl zz
def spRows (K : PySem.W.Frag) : Sp := fun vs H Q _ => ∃ (a1 a2 : Addr) (nm c d sh vl zz k1 k2 : List Nat), vs = [.ref a1, .ref a2, ss sh, ss vl] ∧ SqT K H a1 [ss nm, ss c, ss k1] ∧ SqT K H a2 [ss zz, ss d, ss k2] ∧
  nm.length ≤ 20 ∧ c.length ≤ 1 ∧ d.length ≤ 1 ∧ sh.length ≤ 20 ∧ vl.length ≤ 30 ∧ zz.length ≤ 20 ∧ ∀ R H', Ex H H' → RowsL K H' R (rowsF ([45, 45] ++ nm) c d sh vl zz) → Q (.ref R) H'
end KL

set_option Elab.async false
set_option maxRecDepth 100000
set_option maxHeartbeats 4000000
namespace KL
open PySem PySem.Spec PyProof.Rows L2 SX Evl
section
variable {X : Cx}
theorem call_repB : CallR X (.builtin "repr") (fun xs H Q => ∃ b : Bool, xs = [.bl b] ∧ Q (.str (if b then "True" else "False")) H) := by
  intro pins s σ H xs us Q inv rel h
  obtain ⟨b, rfl, q⟩ := h
  obtain ⟨u, rfl, ru⟩ := vals1 rel
  cases (show u = Value.bool b from ru)
  exact PySem.P.repr_of_bool ⟨.str (if b then "True" else "False"), H, inv.tok _, ⟨_, rfl⟩, q⟩
end
/-- what the law draws -/
structure Good (nm sh vl : List Nat) (c d : Nat) : Prop where
  n2 : 2 ≤ nm.length
  n12 : nm.length ≤ 12
  nc : ∀ x ∈ nm, 97 ≤ x ∧ x ≤ 121
  sh_ : ∃ k, 1 ≤ k ∧ k < nm.length ∧ sh = nm.take k
  c_ : 97 ≤ c ∧ c ≤ 121
  d_ : 97 ≤ d ∧ d ≤ 121
  cd : c ≠ d
  vl_ : vl = [118] ∨ vl = [] ∨ vl = [45, 53] ∨ vl = [45, 45] ++ sh ∨ vl = [97, 61, 98]
abbrev zz : List Nat := [122, 122]
def grF (nm : List Nat) (c d : Nat) (s x m : Bool) : Gr := ⟨[⟨nm, [c], kLast⟩, ⟨zz, [d], kCount⟩], [([105, 110], aMany)], s, x, m⟩
def gr3 (nm : List Nat) (c d : Nat) : Gr := ⟨[⟨nm, [c], kLast⟩, ⟨zz, [d], kCount⟩, ⟨[122, 121], [53], kFlag⟩], [([105, 110], aMany)], true, true, true⟩
def gr0 (nm : List Nat) (c d : Nat) : Gr := ⟨[⟨nm, [c], kLast⟩, ⟨zz, [d], kCount⟩], [], true, true, true⟩
structure Ctx (K : PySem.W.Frag) (H : Hp) (nm : List Nat) (c d : Nat) (a1 a2 ap : Addr) : Prop where
  t1 : SqT K H a1 [ss nm, ss [c], ss kLast]
  t2 : SqT K H a2 [ss zz, ss [d], ss kCount]
  tp : ∃ p1, SqT K H ap [.ref p1] ∧ SqT K H p1 [ss [105, 110], ss aMany]
theorem Ctx.mono {K : PySem.W.Frag} {H H' : Hp} {nm : List Nat} {c d : Nat} {a1 a2 ap : Addr} (h : Ctx K H nm c d a1 a2 ap) (e : Ex H H') : Ctx K H' nm c d a1 a2 ap :=
  ⟨ex_t e h.t1, ex_t e h.t2, let ⟨p, x, y⟩ := h.tp; ⟨p, ex_t e x, ex_t e y⟩⟩
theorem StAt.mono {H H' : Hp} {st dL : Addr} {n : Int} (h : StAt H st dL n) (e : Ex H H') : StAt H' st dL n := by
  obtain ⟨⟨dC, cs, ls, e1, e2, e3, r⟩, n0⟩ := h
  exact ⟨⟨dC, cs, ls, e _ _ e1, e _ _ e2, e _ _ e3, r⟩, n0⟩
abbrev lt25 : Str := "abcdefghijklmnopqrstuvwxy"
def lts : List Nat := (List.range 25).map (97 + ·)
theorem lit25 : lt25 = S lts := by decide +kernel
theorem lt_at {r : Int} (h0 : 0 ≤ r) (h1 : r < 25) : ∃ x : Nat, atI lt25.cps.toList r = some x ∧ (x : Int) = 97 + r := by
  obtain ⟨j, rfl⟩ : ∃ j : Nat, r = (j : Int) := ⟨r.toNat, by omega⟩
  refine ⟨97 + j, ?_, by omega⟩
  have hj : j < 25 := by omega
  rw [lit25]
  refine atI_nat ?_
  show lts[j]? = some (97 + j)
  unfold lts
  rw [List.getElem?_map, List.getElem?_range hj]
  rfl
theorem join1 : ∀ l : List Nat, TL.joinL [] (l.map fun c => [c]) = l
  | [] => rfl
  | [_] => rfl
  | c :: d :: r => by
    show [c] ++ ([] ++ TL.joinL [] ((d :: r).map fun c => [c])) = c :: d :: r
    rw [join1 (d :: r)]
    rfl
theorem join_S1 (l : List Nat) : Txt.join ("" : Str) (l.map fun c => S [c]) = S l := by
  rw [lit_nil, show (l.map fun c => S [c]) = (l.map fun c => [c]).map S by rw [List.map_map]; rfl, join_S, join1]
theorem sum1 : ∀ l : List Nat, ((l.map fun c => S [c]).map (·.length)).sum = l.length
  | [] => rfl
  | c :: r => by
    rw [List.map_cons, List.map_cons, List.sum_cons, sum1 r, List.length_cons]
    show 1 + _ = _ + 1
    omega
theorem Chg.keep {st dL : Addr} {H H' : Hp} (c : Chg st dL H H') {p : Addr} {o : HO} (h : H p = some o) (n1 : p ≠ st) (n2 : p ≠ dL) : H' p = some o := c p o h n1 n2
theorem lst_ne {H : Hp} {a b : Addr} {l : List Nat} {cs : List Int} (h1 : H a = some (.lst (l.map fun c => ss [c]))) (h2 : H b = some (.lst (cs.map V.int))) (h : 0 < cs.length) : a ≠ b := by
  intro e
  subst e
  rw [h1] at h2
  have h3 := HO.lst.inj (Option.some.inj h2)
  cases cs with
  | nil => simp at h
  | cons c r => cases l <;> simp at h3
/-- between two of the law's pieces -/
def Mid (K : PySem.W.Frag) (st dL : Addr) (n : Int) (σ : L2.St) (H : Hp) : Prop :=
  ∃ x0 x3 x6 x13 x14 x15 x16 x17 x18 x19 x20 x21 nm sh vl c d a1 a2 ap, σ = [x0, some (.ref st), some (.str lt25), x3, some (ss nm), some (ss sh), x6, some (ss vl), some (ss [c]), some (ss [d]), some (.ref a1), some (.ref a2), some (.ref ap), x13, x14, x15, x16, x17, x18, x19, x20, x21] ∧
    StAt H st dL n ∧ Ctx K H nm c d a1 a2 ap ∧ Good nm sh vl c d
def spLaw09 (K : PySem.W.Frag) : Sp := fun vs H Q _ => ∃ (a : Addr) (ns : List Int), vs = [.ref a] ∧ SqL K H a (ns.map V.int) ∧ ns.length ≤ 63 ∧ ∀ H', Q (.bl true) H'
theorem dp_bools (K : PySem.W.Frag) (H : Hp) : ∀ bs : List Bool, DpAll K H (bs.map V.bl) (bs.map PyData.bool)
  | [] => .nil
  | b :: bs => .cons (.bl b) (dp_bools K H bs)
theorem show4 : ∀ b1 b2 b3 b4 : Bool, (PyData.list ([b1, b2, b3, b4].map PyData.bool)).showable = true ∧ (PyData.list ([b1, b2, b3, b4].map PyData.bool)).depth ≤ 60 ∧ (PyData.list ([b1, b2, b3, b4].map PyData.bool)).hasDict = false ∧ (PyData.list ([b1, b2, b3, b4].map PyData.bool)).shown.length ≤ sizeLine := by
  decide +kernel
theorem lit_zz : ("zz" : Str) = S zz := by decide +kernel
theorem lit_in : ("in" : Str) = S [105, 110] := by decide +kernel
theorem lit_zy : ("zy" : Str) = S [122, 121] := by decide +kernel
theorem lit_5 : ("5" : Str) = S [53] := by decide +kernel
/-! ### the grammars in the heap -/
theorem Ctx.gr {K : PySem.W.Frag} {H : Hp} {nm : List Nat} {c d : Nat} {a1 a2 ap q1 q2 am : Addr} {s x m : Bool} (h : Ctx K H nm c d a1 a2 ap) (h1 : SqT K H q1 [.ref a1, .ref a2]) (h2 : SqT K H q2 [.ref q1, .ref ap, .ref am]) (h3 : SqT K H am [.bl s, .bl x, .bl m]) :
    GrAt K H q2 (grF nm c d s x m) := by
  obtain ⟨p1, y1, y2⟩ := h.tp
  exact ⟨q1, ap, am, h2, ⟨[a1, a2], h1, .cons h.t1 (.cons h.t2 .nil)⟩, ⟨[p1], y1, .cons y2 .nil⟩, h3⟩
theorem Ctx.gr3 {K : PySem.W.Frag} {H : Hp} {nm : List Nat} {c d : Nat} {a1 a2 a3 ap q1 q2 am : Addr} (h : Ctx K H nm c d a1 a2 ap) (h4 : SqT K H a3 [ss [122, 121], ss [53], ss kFlag]) (h1 : SqT K H q1 [.ref a1, .ref a2, .ref a3]) (h2 : SqT K H q2 [.ref q1, .ref ap, .ref am]) (h3 : SqT K H am [.bl true, .bl true, .bl true]) :
    GrAt K H q2 (gr3 nm c d) := by
  obtain ⟨p1, y1, y2⟩ := h.tp
  exact ⟨q1, ap, am, h2, ⟨[a1, a2, a3], h1, .cons h.t1 (.cons h.t2 (.cons h4 .nil))⟩, ⟨[p1], y1, .cons y2 .nil⟩, h3⟩
theorem Ctx.gr0 {K : PySem.W.Frag} {H : Hp} {nm : List Nat} {c d : Nat} {a1 a2 ap p0 q1 q2 am : Addr} (h : Ctx K H nm c d a1 a2 ap) (h1 : SqT K H q1 [.ref a1, .ref a2]) (h2 : SqT K H q2 [.ref q1, .ref p0, .ref am]) (h0 : SqT K H p0 []) (h3 : SqT K H am [.bl true, .bl true, .bl true]) :
    GrAt K H q2 (gr0 nm c d) := ⟨q1, p0, am, h2, ⟨[a1, a2], h1, .cons h.t1 (.cons h.t2 .nil)⟩, ⟨[], h0, .nil⟩, h3⟩
def rows3 : List Row := [([[45, 53]], [true]), ([[45, 53, 53], [119]], [true]), ([[45, 55]], [false]), ([[45, 45], [45, 53]], [true]), ([[119], [45, 53]], [true]), ([[119], [45, 53, 55]], [false])]
def rows0 (d : Nat) : List Row := [([], [true]), ([[119]], [false]), ([[45, 53]], [false]), ([[45, d]], [true])]
end KL

set_option Elab.async false
set_option maxRecDepth 100000
set_option maxHeartbeats 4000000
set_option linter.all false
set_option linter.unusedSimpArgs false
namespace KL
open PySem PySem.Spec PyProof.Rows L2 SX Evl
theorem cut_none {l : List Nat} (h : 61 ∉ l) : cutEq l = (l, none) := by
  unfold cutEq
  rw [SX.par_head_none h]
theorem cut_some {l : List Nat} (r : List Nat) (h : 61 ∉ l) : cutEq (l ++ [61] ++ r) = (l, some r) := by
  unfold cutEq
  rw [List.append_assoc, SX.par_head (sep := []) r h]
theorem mem_az {x : Nat} (h : 97 ≤ x ∧ x ≤ 122) : mem sgName x = true ∧ mem sgWord x = true ∧ mem sgLetter x = true ∧ mem sgFigure x = false := by
  obtain ⟨k, rfl⟩ : ∃ k, x = 97 + k := ⟨x - 97, by omega⟩
  have hk : k < 26 := by omega
  exact (show ∀ k, k < 26 → (mem sgName (97 + k) = true ∧ mem sgWord (97 + k) = true ∧ mem sgLetter (97 + k) = true ∧ mem sgFigure (97 + k) = false) by decide +kernel) k hk
theorem all_az {l : List Nat} {m : Str} (h : ∀ x ∈ l, 97 ≤ x ∧ x ≤ 121) (hm : ∀ {x : Nat}, (97 ≤ x ∧ x ≤ 122) → mem m x = true) : l.all (mem m) = true :=
  List.all_eq_true.mpr fun x hx => hm ⟨(h x hx).1, Nat.le_succ_of_le (h x hx).2⟩
section
variable {nm sh vl : List Nat} {c d : Nat} (g : Good nm sh vl c d)
include g
theorem Good.nz : nm ≠ zz := by
  intro e
  have := g.nc 122 (by rw [e]; simp)
  omega
theorem Good.nz2 (r : List Nat) : nm ≠ 122 :: r := by
  intro e
  have := g.nc 122 (by rw [e]; simp)
  omega
theorem Good.ne : nm ≠ [] := by
  intro e
  have := g.n2
  rw [e] at this
  simp at this
theorem Good.ncut : 61 ∉ nm := fun h => by have := g.nc _ h; omega
theorem Good.shc : ∀ x ∈ sh, 97 ≤ x ∧ x ≤ 121 := by
  obtain ⟨k, _, _, rfl⟩ := g.sh_
  exact fun x hx => g.nc x (List.mem_of_mem_take hx)
theorem Good.scut : 61 ∉ sh := fun h => by have := g.shc _ h; omega
theorem Good.shl : 1 ≤ sh.length ∧ sh.length < nm.length := by
  obtain ⟨k, h1, h2, rfl⟩ := g.sh_
  rw [List.length_take]
  omega
theorem Good.sne : sh ≠ nm := by
  intro e
  have := g.shl
  rw [e] at this
  omega
theorem Good.she : sh ≠ [] := by
  intro e
  have := g.shl
  rw [e] at this
  simp at this
theorem Good.snz (r : List Nat) : sh ≠ 122 :: r := by
  intro e
  have := g.shc 122 (by rw [e]; simp)
  omega
theorem Good.bn : begins sh nm = true := by
  obtain ⟨k, h1, h2, e⟩ := g.sh_
  have z := g.she
  unfold begins
  rw [Bool.and_eq_true, decide_eq_true_eq, List.isPrefixOf_iff_prefix]
  refine ⟨z, ?_⟩
  rw [e]
  exact List.take_prefix _ _
theorem Good.bz : begins sh zz = false := by
  obtain ⟨x, r, e⟩ : ∃ x r, sh = x :: r := by
    cases h : sh with
    | nil => exact absurd h g.she
    | cons x r => exact ⟨x, r, rfl⟩
  have hx := g.shc x (by rw [e]; simp)
  rw [e]
  unfold begins
  simp [List.isPrefixOf]
  omega
/-- what the reader asks of the grammar -/
structure Fx (G : Gr) (nm sh : List Nat) (c d : Nat) (s x m : Bool) : Prop where
  tn : tellF G nm = some nm
  ts : tellF G sh = if s = true then some nm else none
  tz : tellF G zz = some zz
  te : tellF G [] = none
  kn : kindOf G nm = kLast
  kz : kindOf G zz = kCount
  lc : letterF G [c] = some nm
  ld : letterF G [d] = some zz
  rn : readsNum G = m
  mx : G.mixed = x
  l5 : letterF G [53] = none
  dl : ∀ n, dealOk G.pls n = true
theorem Good.fx (s x m : Bool) : Fx (grF nm c d s x m) nm sh c d s x m := by
  have hz := g.nz
  have hc := g.c_
  have hd := g.d_
  have hcd := g.cd
  refine ⟨?_, ?_, ?_, ?_, ?_, ?_, ?_, ?_, ?_, rfl, ?_, fun n => ?_⟩
  · simp [tellF, Gr.names, grF]
  · simp [tellF, Gr.names, grF, g.sne, g.snz, onlyOne, List.filter, g.bn, g.bz]
  · simp [tellF, Gr.names, grF]
  · simp [tellF, Gr.names, grF, onlyOne, begins, List.filter, g.ne.symm]
  · simp [kindOf, kindF, grF, List.find?]
  · simp [kindOf, kindF, grF, List.find?, hz]
  · simp [letterF, grF, List.find?, List.filter]
  · simp [letterF, grF, List.find?, List.filter, hcd]
  · simp [readsNum, grF, (mem_az (x := c) (by omega)).2.2.2, (mem_az (x := d) (by omega)).2.2.2]
  · have h1 : c ≠ 53 := by omega
    have h2 : d ≠ 53 := by omega
    simp [letterF, grF, List.filter, h1, h2]
  · have h1 : arityCount (grF nm c d s x m).pls aOne = 0 := by show arityCount [([105, 110], aMany)] aOne = 0; decide
    have h2 : arityCount (grF nm c d s x m).pls aMany = 1 := by show arityCount [([105, 110], aMany)] aMany = 1; decide
    unfold dealOk
    rw [h1, h2]
    simp
end
theorem n5 : number [45, 53] = true := by decide +kernel
theorem n55 : number [45, 53, 53] = true := by decide +kernel
theorem n57 : number [45, 53, 55] = true := by decide +kernel
theorem cutz : cutEq zz = (zz, none) := by decide
theorem cute : cutEq [61] = ([], some []) := by decide
section
variable {G : Gr} {nm sh vl : List Nat} {c d : Nat} {s x m : Bool} (F : Fx G nm sh c d s x m) (g : Good nm sh vl c d)
include g
theorem Good.cutn (v : List Nat) : cutEq (nm ++ 61 :: v) = (nm, some v) := by
  have := cut_some (l := nm) v g.ncut
  rwa [List.append_assoc] at this
theorem Good.cuts (v : List Nat) : cutEq (sh ++ 61 :: v) = (sh, some v) := by
  have := cut_some (l := sh) v g.scut
  rwa [List.append_assoc] at this
theorem Good.numc (r : List Nat) : number (45 :: c :: r) = false := by
  have := g.c_
  simp [number, (mem_az (x := c) (by omega)).2.2.2]
theorem Good.numd (r : List Nat) : number (45 :: d :: r) = false := by
  have := g.d_
  simp [number, (mem_az (x := d) (by omega)).2.2.2]
include F
theorem p0 (v : List Nat) : lastsF G [[45, 45] ++ nm, v] = (true) := by
  have hc : c ≠ 45 := by have := g.c_; omega
  have hd : d ≠ 45 := by have := g.d_; omega
  cases s <;> cases x <;> cases m <;> simp [lastsF, acceptedF, lineF, wordF, rs0, dashed, longF, awaitF, lone, valueless, giveF, placeF, lettersF, F.tn, F.ts, F.tz, F.te, F.kn, F.kz, F.lc, F.ld, F.rn, F.mx, F.l5, F.dl, g.ne, g.she, g.sne, cut_none g.ncut, cut_none g.scut, n5, n55, cutz, g.cutn, g.cuts, cute, hc, hd, g.numc, g.numd]
theorem p1 (v : List Nat) : lastsF G [[45, 45] ++ sh, v] = (false) := by
  have hc : c ≠ 45 := by have := g.c_; omega
  have hd : d ≠ 45 := by have := g.d_; omega
  cases s <;> cases x <;> cases m <;> simp [lastsF, acceptedF, lineF, wordF, rs0, dashed, longF, awaitF, lone, valueless, giveF, placeF, lettersF, F.tn, F.ts, F.tz, F.te, F.kn, F.kz, F.lc, F.ld, F.rn, F.mx, F.l5, F.dl, g.ne, g.she, g.sne, cut_none g.ncut, cut_none g.scut, n5, n55, cutz, g.cutn, g.cuts, cute, hc, hd, g.numc, g.numd]
theorem p2 (v : List Nat) : lastsF G [(([45, 45] ++ nm) ++ [61]) ++ v] = (true) := by
  have hc : c ≠ 45 := by have := g.c_; omega
  have hd : d ≠ 45 := by have := g.d_; omega
  cases s <;> cases x <;> cases m <;> simp [lastsF, acceptedF, lineF, wordF, rs0, dashed, longF, awaitF, lone, valueless, giveF, placeF, lettersF, F.tn, F.ts, F.tz, F.te, F.kn, F.kz, F.lc, F.ld, F.rn, F.mx, F.l5, F.dl, g.ne, g.she, g.sne, cut_none g.ncut, cut_none g.scut, n5, n55, cutz, g.cutn, g.cuts, cute, hc, hd, g.numc, g.numd]
theorem p3 (v : List Nat) : lastsF G [([45, 45] ++ sh) ++ [61]] = (false) := by
  have hc : c ≠ 45 := by have := g.c_; omega
  have hd : d ≠ 45 := by have := g.d_; omega
  cases s <;> cases x <;> cases m <;> simp [lastsF, acceptedF, lineF, wordF, rs0, dashed, longF, awaitF, lone, valueless, giveF, placeF, lettersF, F.tn, F.ts, F.tz, F.te, F.kn, F.kz, F.lc, F.ld, F.rn, F.mx, F.l5, F.dl, g.ne, g.she, g.sne, cut_none g.ncut, cut_none g.scut, n5, n55, cutz, g.cutn, g.cuts, cute, hc, hd, g.numc, g.numd]
theorem p4 (v : List Nat) : lastsF G [([45] ++ [c]) ++ [118]] = (true) := by
  have hc : c ≠ 45 := by have := g.c_; omega
  have hd : d ≠ 45 := by have := g.d_; omega
  cases s <;> cases x <;> cases m <;> simp [lastsF, acceptedF, lineF, wordF, rs0, dashed, longF, awaitF, lone, valueless, giveF, placeF, lettersF, F.tn, F.ts, F.tz, F.te, F.kn, F.kz, F.lc, F.ld, F.rn, F.mx, F.l5, F.dl, g.ne, g.she, g.sne, cut_none g.ncut, cut_none g.scut, n5, n55, cutz, g.cutn, g.cuts, cute, hc, hd, g.numc, g.numd]
theorem p5 (v : List Nat) : lastsF G [([45] ++ [d]) ++ [d]] = (true) := by
  have hc : c ≠ 45 := by have := g.c_; omega
  have hd : d ≠ 45 := by have := g.d_; omega
  cases s <;> cases x <;> cases m <;> simp [lastsF, acceptedF, lineF, wordF, rs0, dashed, longF, awaitF, lone, valueless, giveF, placeF, lettersF, F.tn, F.ts, F.tz, F.te, F.kn, F.kz, F.lc, F.ld, F.rn, F.mx, F.l5, F.dl, g.ne, g.she, g.sne, cut_none g.ncut, cut_none g.scut, n5, n55, cutz, g.cutn, g.cuts, cute, hc, hd, g.numc, g.numd]
theorem p6 (v : List Nat) : lastsF G [([45] ++ [d]) ++ [c], [45, 53]] = (true) := by
  have hc : c ≠ 45 := by have := g.c_; omega
  have hd : d ≠ 45 := by have := g.d_; omega
  cases s <;> cases x <;> cases m <;> simp [lastsF, acceptedF, lineF, wordF, rs0, dashed, longF, awaitF, lone, valueless, giveF, placeF, lettersF, F.tn, F.ts, F.tz, F.te, F.kn, F.kz, F.lc, F.ld, F.rn, F.mx, F.l5, F.dl, g.ne, g.she, g.sne, cut_none g.ncut, cut_none g.scut, n5, n55, cutz, g.cutn, g.cuts, cute, hc, hd, g.numc, g.numd]
theorem p7 (v : List Nat) : lastsF G [[119], [45, 53]] = (!x) := by
  have hc : c ≠ 45 := by have := g.c_; omega
  have hd : d ≠ 45 := by have := g.d_; omega
  cases s <;> cases x <;> cases m <;> simp [lastsF, acceptedF, lineF, wordF, rs0, dashed, longF, awaitF, lone, valueless, giveF, placeF, lettersF, F.tn, F.ts, F.tz, F.te, F.kn, F.kz, F.lc, F.ld, F.rn, F.mx, F.l5, F.dl, g.ne, g.she, g.sne, cut_none g.ncut, cut_none g.scut, n5, n55, cutz, g.cutn, g.cuts, cute, hc, hd, g.numc, g.numd]
theorem p8 (v : List Nat) : lastsF G [[45, 53]] = (false) := by
  have hc : c ≠ 45 := by have := g.c_; omega
  have hd : d ≠ 45 := by have := g.d_; omega
  cases s <;> cases x <;> cases m <;> simp [lastsF, acceptedF, lineF, wordF, rs0, dashed, longF, awaitF, lone, valueless, giveF, placeF, lettersF, F.tn, F.ts, F.tz, F.te, F.kn, F.kz, F.lc, F.ld, F.rn, F.mx, F.l5, F.dl, g.ne, g.she, g.sne, cut_none g.ncut, cut_none g.scut, n5, n55, cutz, g.cutn, g.cuts, cute, hc, hd, g.numc, g.numd]
theorem p9 (v : List Nat) : lastsF G [[45, 45], [45, 53]] = (true) := by
  have hc : c ≠ 45 := by have := g.c_; omega
  have hd : d ≠ 45 := by have := g.d_; omega
  cases s <;> cases x <;> cases m <;> simp [lastsF, acceptedF, lineF, wordF, rs0, dashed, longF, awaitF, lone, valueless, giveF, placeF, lettersF, F.tn, F.ts, F.tz, F.te, F.kn, F.kz, F.lc, F.ld, F.rn, F.mx, F.l5, F.dl, g.ne, g.she, g.sne, cut_none g.ncut, cut_none g.scut, n5, n55, cutz, g.cutn, g.cuts, cute, hc, hd, g.numc, g.numd]
theorem p10 (v : List Nat) : lastsF G [[45]] = (true) := by
  have hc : c ≠ 45 := by have := g.c_; omega
  have hd : d ≠ 45 := by have := g.d_; omega
  cases s <;> cases x <;> cases m <;> simp [lastsF, acceptedF, lineF, wordF, rs0, dashed, longF, awaitF, lone, valueless, giveF, placeF, lettersF, F.tn, F.ts, F.tz, F.te, F.kn, F.kz, F.lc, F.ld, F.rn, F.mx, F.l5, F.dl, g.ne, g.she, g.sne, cut_none g.ncut, cut_none g.scut, n5, n55, cutz, g.cutn, g.cuts, cute, hc, hd, g.numc, g.numd]
theorem p11 (v : List Nat) : lastsF G [[]] = (true) := by
  have hc : c ≠ 45 := by have := g.c_; omega
  have hd : d ≠ 45 := by have := g.d_; omega
  cases s <;> cases x <;> cases m <;> simp [lastsF, acceptedF, lineF, wordF, rs0, dashed, longF, awaitF, lone, valueless, giveF, placeF, lettersF, F.tn, F.ts, F.tz, F.te, F.kn, F.kz, F.lc, F.ld, F.rn, F.mx, F.l5, F.dl, g.ne, g.she, g.sne, cut_none g.ncut, cut_none g.scut, n5, n55, cutz, g.cutn, g.cuts, cute, hc, hd, g.numc, g.numd]
theorem p12 (v : List Nat) : lastsF G [] = (true) := by
  have hc : c ≠ 45 := by have := g.c_; omega
  have hd : d ≠ 45 := by have := g.d_; omega
  cases s <;> cases x <;> cases m <;> simp [lastsF, acceptedF, lineF, wordF, rs0, dashed, longF, awaitF, lone, valueless, giveF, placeF, lettersF, F.tn, F.ts, F.tz, F.te, F.kn, F.kz, F.lc, F.ld, F.rn, F.mx, F.l5, F.dl, g.ne, g.she, g.sne, cut_none g.ncut, cut_none g.scut, n5, n55, cutz, g.cutn, g.cuts, cute, hc, hd, g.numc, g.numd]
theorem p13 (v : List Nat) : lastsF G [[45, 45], [45, 45] ++ sh] = (true) := by
  have hc : c ≠ 45 := by have := g.c_; omega
  have hd : d ≠ 45 := by have := g.d_; omega
  cases s <;> cases x <;> cases m <;> simp [lastsF, acceptedF, lineF, wordF, rs0, dashed, longF, awaitF, lone, valueless, giveF, placeF, lettersF, F.tn, F.ts, F.tz, F.te, F.kn, F.kz, F.lc, F.ld, F.rn, F.mx, F.l5, F.dl, g.ne, g.she, g.sne, cut_none g.ncut, cut_none g.scut, n5, n55, cutz, g.cutn, g.cuts, cute, hc, hd, g.numc, g.numd]
theorem p14 (v : List Nat) : lastsF G [[45, 45] ++ nm, [45, 45] ++ sh] = (true) := by
  have hc : c ≠ 45 := by have := g.c_; omega
  have hd : d ≠ 45 := by have := g.d_; omega
  cases s <;> cases x <;> cases m <;> simp [lastsF, acceptedF, lineF, wordF, rs0, dashed, longF, awaitF, lone, valueless, giveF, placeF, lettersF, F.tn, F.ts, F.tz, F.te, F.kn, F.kz, F.lc, F.ld, F.rn, F.mx, F.l5, F.dl, g.ne, g.she, g.sne, cut_none g.ncut, cut_none g.scut, n5, n55, cutz, g.cutn, g.cuts, cute, hc, hd, g.numc, g.numd]
theorem p15 (v : List Nat) : lastsF G [[45, 45] ++ nm, [45, 45], [45, 53]] = (false) := by
  have hc : c ≠ 45 := by have := g.c_; omega
  have hd : d ≠ 45 := by have := g.d_; omega
  cases s <;> cases x <;> cases m <;> simp [lastsF, acceptedF, lineF, wordF, rs0, dashed, longF, awaitF, lone, valueless, giveF, placeF, lettersF, F.tn, F.ts, F.tz, F.te, F.kn, F.kz, F.lc, F.ld, F.rn, F.mx, F.l5, F.dl, g.ne, g.she, g.sne, cut_none g.ncut, cut_none g.scut, n5, n55, cutz, g.cutn, g.cuts, cute, hc, hd, g.numc, g.numd]
theorem p16 (v : List Nat) : lastsF G [[45, 45] ++ nm] = (false) := by
  have hc : c ≠ 45 := by have := g.c_; omega
  have hd : d ≠ 45 := by have := g.d_; omega
  cases s <;> cases x <;> cases m <;> simp [lastsF, acceptedF, lineF, wordF, rs0, dashed, longF, awaitF, lone, valueless, giveF, placeF, lettersF, F.tn, F.ts, F.tz, F.te, F.kn, F.kz, F.lc, F.ld, F.rn, F.mx, F.l5, F.dl, g.ne, g.she, g.sne, cut_none g.ncut, cut_none g.scut, n5, n55, cutz, g.cutn, g.cuts, cute, hc, hd, g.numc, g.numd]
theorem p17 (v : List Nat) : lastsF G [[119], ([45, 45] ++ sh) ++ [61]] = (!x) := by
  have hc : c ≠ 45 := by have := g.c_; omega
  have hd : d ≠ 45 := by have := g.d_; omega
  cases s <;> cases x <;> cases m <;> simp [lastsF, acceptedF, lineF, wordF, rs0, dashed, longF, awaitF, lone, valueless, giveF, placeF, lettersF, F.tn, F.ts, F.tz, F.te, F.kn, F.kz, F.lc, F.ld, F.rn, F.mx, F.l5, F.dl, g.ne, g.she, g.sne, cut_none g.ncut, cut_none g.scut, n5, n55, cutz, g.cutn, g.cuts, cute, hc, hd, g.numc, g.numd]
theorem p18 (v : List Nat) : lastsF G [[119], ([45, 45] ++ nm) ++ [61]] = (true) := by
  have hc : c ≠ 45 := by have := g.c_; omega
  have hd : d ≠ 45 := by have := g.d_; omega
  cases s <;> cases x <;> cases m <;> simp [lastsF, acceptedF, lineF, wordF, rs0, dashed, longF, awaitF, lone, valueless, giveF, placeF, lettersF, F.tn, F.ts, F.tz, F.te, F.kn, F.kz, F.lc, F.ld, F.rn, F.mx, F.l5, F.dl, g.ne, g.she, g.sne, cut_none g.ncut, cut_none g.scut, n5, n55, cutz, g.cutn, g.cuts, cute, hc, hd, g.numc, g.numd]
theorem p19 (v : List Nat) : lastsF G [(([45] ++ [c]) ++ [45, 45]) ++ sh] = (true) := by
  have hc : c ≠ 45 := by have := g.c_; omega
  have hd : d ≠ 45 := by have := g.d_; omega
  cases s <;> cases x <;> cases m <;> simp [lastsF, acceptedF, lineF, wordF, rs0, dashed, longF, awaitF, lone, valueless, giveF, placeF, lettersF, F.tn, F.ts, F.tz, F.te, F.kn, F.kz, F.lc, F.ld, F.rn, F.mx, F.l5, F.dl, g.ne, g.she, g.sne, cut_none g.ncut, cut_none g.scut, n5, n55, cutz, g.cutn, g.cuts, cute, hc, hd, g.numc, g.numd]
theorem p20 (v : List Nat) : lastsF G [[45, 45] ++ zz] = (true) := by
  have hc : c ≠ 45 := by have := g.c_; omega
  have hd : d ≠ 45 := by have := g.d_; omega
  cases s <;> cases x <;> cases m <;> simp [lastsF, acceptedF, lineF, wordF, rs0, dashed, longF, awaitF, lone, valueless, giveF, placeF, lettersF, F.tn, F.ts, F.tz, F.te, F.kn, F.kz, F.lc, F.ld, F.rn, F.mx, F.l5, F.dl, g.ne, g.she, g.sne, cut_none g.ncut, cut_none g.scut, n5, n55, cutz, g.cutn, g.cuts, cute, hc, hd, g.numc, g.numd]
theorem p21 (v : List Nat) : lastsF G [[45, 45] ++ nm, v, [45, 45] ++ sh, v] = (false) := by
  have hc : c ≠ 45 := by have := g.c_; omega
  have hd : d ≠ 45 := by have := g.d_; omega
  cases s <;> cases x <;> cases m <;> simp [lastsF, acceptedF, lineF, wordF, rs0, dashed, longF, awaitF, lone, valueless, giveF, placeF, lettersF, F.tn, F.ts, F.tz, F.te, F.kn, F.kz, F.lc, F.ld, F.rn, F.mx, F.l5, F.dl, g.ne, g.she, g.sne, cut_none g.ncut, cut_none g.scut, n5, n55, cutz, g.cutn, g.cuts, cute, hc, hd, g.numc, g.numd]
theorem p22 (v : List Nat) : lastsF G [[45, 45, 61]] = (false) := by
  have hc : c ≠ 45 := by have := g.c_; omega
  have hd : d ≠ 45 := by have := g.d_; omega
  cases s <;> cases x <;> cases m <;> simp [lastsF, acceptedF, lineF, wordF, rs0, dashed, longF, awaitF, lone, valueless, giveF, placeF, lettersF, F.tn, F.ts, F.tz, F.te, F.kn, F.kz, F.lc, F.ld, F.rn, F.mx, F.l5, F.dl, g.ne, g.she, g.sne, cut_none g.ncut, cut_none g.scut, n5, n55, cutz, g.cutn, g.cuts, cute, hc, hd, g.numc, g.numd]
theorem p23 (v : List Nat) : lastsF G [([45] ++ [c]) ++ [c], [45] ++ [d]] = (true) := by
  have hc : c ≠ 45 := by have := g.c_; omega
  have hd : d ≠ 45 := by have := g.d_; omega
  cases s <;> cases x <;> cases m <;> simp [lastsF, acceptedF, lineF, wordF, rs0, dashed, longF, awaitF, lone, valueless, giveF, placeF, lettersF, F.tn, F.ts, F.tz, F.te, F.kn, F.kz, F.lc, F.ld, F.rn, F.mx, F.l5, F.dl, g.ne, g.she, g.sne, cut_none g.ncut, cut_none g.scut, n5, n55, cutz, g.cutn, g.cuts, cute, hc, hd, g.numc, g.numd]
theorem p24 (v : List Nat) : lastsF G [[45, 45], [45, 45], [45] ++ v] = (true) := by
  have hc : c ≠ 45 := by have := g.c_; omega
  have hd : d ≠ 45 := by have := g.d_; omega
  cases s <;> cases x <;> cases m <;> simp [lastsF, acceptedF, lineF, wordF, rs0, dashed, longF, awaitF, lone, valueless, giveF, placeF, lettersF, F.tn, F.ts, F.tz, F.te, F.kn, F.kz, F.lc, F.ld, F.rn, F.mx, F.l5, F.dl, g.ne, g.she, g.sne, cut_none g.ncut, cut_none g.scut, n5, n55, cutz, g.cutn, g.cuts, cute, hc, hd, g.numc, g.numd]
theorem p25 (v : List Nat) : lastsF G [[45] ++ [d], [45], [46]] = (true) := by
  have hc : c ≠ 45 := by have := g.c_; omega
  have hd : d ≠ 45 := by have := g.d_; omega
  cases s <;> cases x <;> cases m <;> simp [lastsF, acceptedF, lineF, wordF, rs0, dashed, longF, awaitF, lone, valueless, giveF, placeF, lettersF, F.tn, F.ts, F.tz, F.te, F.kn, F.kz, F.lc, F.ld, F.rn, F.mx, F.l5, F.dl, g.ne, g.she, g.sne, cut_none g.ncut, cut_none g.scut, n5, n55, cutz, g.cutn, g.cuts, cute, hc, hd, g.numc, g.numd]
end
end KL

set_option Elab.async false
set_option maxRecDepth 100000
set_option maxHeartbeats 4000000
set_option linter.unusedSimpArgs false
namespace KL
open PySem PySem.Spec PyProof.Rows L2 SX Evl
section
variable {nm sh vl : List Nat} {c d : Nat} (g : Good nm sh vl c d)
include g
theorem Good.nmok : nameOk nm = true := by
  have h1 := g.n2
  have h2 := g.n12
  have h3 : nm.all (mem sgName) = true := all_az g.nc fun h => (mem_az h).1
  have h4 : nm.head? ≠ some 45 := fun e => by
    have := g.nc 45 (List.mem_of_mem_head? (by rw [e]; rfl))
    omega
  have h5 : nm.getLast? ≠ some 45 := fun e => by
    have := g.nc 45 (List.mem_of_getLast? e)
    omega
  simp [nameOk, h1, h2, h3, h4, h5]
omit g in
theorem lok (x : Nat) (h : 97 ≤ x ∧ x ≤ 121) : letterOk [x] = true := by
  have h1 := (mem_az (x := x) (by omega)).2.2.1
  simp [letterOk, h1]
theorem gr_ok (s x m : Bool) : (grF nm c d s x m).Ok := by
  have hc := lok c g.c_
  have hd := lok d g.d_
  have hz := g.nz
  have hcd := g.cd
  have zo : nameOk zz = true := by decide +kernel
  have io : nameOk [105, 110] = true := by decide +kernel
  refine ⟨by show 2 ≤ 24; decide, ?_, ?_, ?_, by show 1 ≤ 5; decide, ?_, ?_, ?_⟩
  · simp [grF, Opt.ok, hc, hd, g.nmok, zo, kinds]
  · simp [grF, hz]
  · simp [grF, List.filter, hcd]
  · simp [grF, io, arities]
  · simp [grF]
  · simp [grF, List.filter]
theorem gr3_ok : (gr3 nm c d).Ok := by
  have hc := lok c g.c_
  have hd := lok d g.d_
  have hz := g.nz
  have hcd := g.cd
  have c5 : c ≠ 53 := by have := g.c_; omega
  have d5 : d ≠ 53 := by have := g.d_; omega
  have zo : nameOk zz = true := by decide +kernel
  have yo : nameOk [122, 121] = true := by decide +kernel
  have fo : letterOk [53] = true := by decide +kernel
  have io : nameOk [105, 110] = true := by decide +kernel
  refine ⟨by show 3 ≤ 24; decide, ?_, ?_, ?_, by show 1 ≤ 5; decide, ?_, ?_, ?_⟩
  · simp [gr3, Opt.ok, hc, hd, g.nmok, zo, yo, fo, kinds]
  · simp [gr3, hz, g.nz2]
  · simp [gr3, List.filter, hcd, c5, d5]
  · simp [gr3, io, arities]
  · simp [gr3]
  · simp [gr3, List.filter]
theorem gr0_ok : (gr0 nm c d).Ok := by
  have hc := lok c g.c_
  have hd := lok d g.d_
  have hz := g.nz
  have hcd := g.cd
  have zo : nameOk zz = true := by decide +kernel
  refine ⟨by show 2 ≤ 24; decide, ?_, ?_, ?_, by show 0 ≤ 5; decide, ?_, ?_, ?_⟩
  · simp [gr0, Opt.ok, hc, hd, g.nmok, zo, kinds]
  · simp [gr0, hz]
  · simp [gr0, List.filter, hcd]
  · simp [gr0]
  · simp [gr0]
  · simp [gr0]
theorem Good.vlok : vl.length ≤ 15 ∧ vl.all (mem sgWord) = true := by
  have h1 : sh.all (mem sgWord) = true := all_az g.shc fun h => (mem_az h).2.1
  have h45 : mem sgWord 45 = true := by decide +kernel
  have h2 := g.shl
  have h3 := g.n12
  rcases g.vl_ with e | e | e | e | e <;> rw [e]
  · decide +kernel
  · decide +kernel
  · decide +kernel
  · simp [h1, h45]
    omega
  · decide +kernel
theorem rows_so : ∀ r ∈ rowsF ([45, 45] ++ nm) [c] [d] sh vl zz, (∀ l ∈ r.1, wordOk l = true) ∧ r.1.length ≤ 80 ∧
    r.2 = [lastsF (grF nm c d true true true) r.1, lastsF (grF nm c d true false true) r.1, lastsF (grF nm c d true true false) r.1, lastsF (grF nm c d false true true) r.1] := by
  have h45 : mem sgWord 45 = true := by decide +kernel
  have h53 : mem sgWord 53 = true := by decide +kernel
  have h61 : mem sgWord 61 = true := by decide +kernel
  have h46 : mem sgWord 46 = true := by decide +kernel
  have h118 : mem sgWord 118 = true := by decide +kernel
  have h119 : mem sgWord 119 = true := by decide +kernel
  have h122 : mem sgWord 122 = true := by decide +kernel
  have hc : mem sgWord c = true := (mem_az (by have := g.c_; omega)).2.1
  have hd : mem sgWord d = true := (mem_az (by have := g.d_; omega)).2.1
  have hn : nm.all (mem sgWord) = true := all_az g.nc fun h => (mem_az h).2.1
  have hs : sh.all (mem sgWord) = true := all_az g.shc fun h => (mem_az h).2.1
  have hv := g.vlok.2
  have l1 := g.n12
  have l2 := g.shl
  have l3 := g.vlok.1
  have f1 := g.fx true true true
  have f2 := g.fx true false true
  have f3 := g.fx true true false
  have f4 := g.fx false true true
  intro r hr
  simp only [rowsF, rowsU12, rowsU11, rowsU10, rowsU9, rowsU8, rowsU7, rowsU6, rowsU5, rowsU4, rowsU3, rowsU2, rowsU1, rowsU0, rowsP0, rowsP1, rowsP2, rowsP3, rowsP4, rowsP5, rowsP6, rowsP7, rowsP8, rowsP9, rowsP10, rowsP11, rowsP12, List.mem_append, List.mem_cons, List.not_mem_nil, or_false, or_assoc] at hr
  rcases hr with rfl | rfl | rfl | rfl | rfl | rfl | rfl | rfl | rfl | rfl | rfl | rfl | rfl | rfl | rfl | rfl | rfl | rfl | rfl | rfl | rfl | rfl | rfl | rfl | rfl | rfl
  · refine ⟨by first | (simp [wordOk, -List.all_eq_true, hn, hs, hv, hc, hd, h45, h53, h61, h46, h118, h119, h122]; done) | (simp [wordOk, -List.all_eq_true, hn, hs, hv, hc, hd, h45, h53, h61, h46, h118, h119, h122]; omega), by simp, ?_⟩
    rw [p0 f1 g [45, 53], p0 f2 g [45, 53], p0 f3 g [45, 53], p0 f4 g [45, 53]]
    try rfl
  · refine ⟨by first | (simp [wordOk, -List.all_eq_true, hn, hs, hv, hc, hd, h45, h53, h61, h46, h118, h119, h122]; done) | (simp [wordOk, -List.all_eq_true, hn, hs, hv, hc, hd, h45, h53, h61, h46, h118, h119, h122]; omega), by simp, ?_⟩
    rw [p1 f1 g vl, p1 f2 g vl, p1 f3 g vl, p1 f4 g vl]
    try rfl
  · refine ⟨by first | (simp [wordOk, -List.all_eq_true, hn, hs, hv, hc, hd, h45, h53, h61, h46, h118, h119, h122]; done) | (simp [wordOk, -List.all_eq_true, hn, hs, hv, hc, hd, h45, h53, h61, h46, h118, h119, h122]; omega), by simp, ?_⟩
    rw [p2 f1 g vl, p2 f2 g vl, p2 f3 g vl, p2 f4 g vl]
    try rfl
  · refine ⟨by first | (simp [wordOk, -List.all_eq_true, hn, hs, hv, hc, hd, h45, h53, h61, h46, h118, h119, h122]; done) | (simp [wordOk, -List.all_eq_true, hn, hs, hv, hc, hd, h45, h53, h61, h46, h118, h119, h122]; omega), by simp, ?_⟩
    rw [p3 f1 g [], p3 f2 g [], p3 f3 g [], p3 f4 g []]
    try rfl
  · refine ⟨by first | (simp [wordOk, -List.all_eq_true, hn, hs, hv, hc, hd, h45, h53, h61, h46, h118, h119, h122]; done) | (simp [wordOk, -List.all_eq_true, hn, hs, hv, hc, hd, h45, h53, h61, h46, h118, h119, h122]; omega), by simp, ?_⟩
    rw [p4 f1 g [], p4 f2 g [], p4 f3 g [], p4 f4 g []]
    try rfl
  · refine ⟨by first | (simp [wordOk, -List.all_eq_true, hn, hs, hv, hc, hd, h45, h53, h61, h46, h118, h119, h122]; done) | (simp [wordOk, -List.all_eq_true, hn, hs, hv, hc, hd, h45, h53, h61, h46, h118, h119, h122]; omega), by simp, ?_⟩
    rw [p5 f1 g [], p5 f2 g [], p5 f3 g [], p5 f4 g []]
    try rfl
  · refine ⟨by first | (simp [wordOk, -List.all_eq_true, hn, hs, hv, hc, hd, h45, h53, h61, h46, h118, h119, h122]; done) | (simp [wordOk, -List.all_eq_true, hn, hs, hv, hc, hd, h45, h53, h61, h46, h118, h119, h122]; omega), by simp, ?_⟩
    rw [p6 f1 g [], p6 f2 g [], p6 f3 g [], p6 f4 g []]
    try rfl
  · refine ⟨by first | (simp [wordOk, -List.all_eq_true, hn, hs, hv, hc, hd, h45, h53, h61, h46, h118, h119, h122]; done) | (simp [wordOk, -List.all_eq_true, hn, hs, hv, hc, hd, h45, h53, h61, h46, h118, h119, h122]; omega), by simp, ?_⟩
    rw [p7 f1 g [], p7 f2 g [], p7 f3 g [], p7 f4 g []]
    try rfl
  · refine ⟨by first | (simp [wordOk, -List.all_eq_true, hn, hs, hv, hc, hd, h45, h53, h61, h46, h118, h119, h122]; done) | (simp [wordOk, -List.all_eq_true, hn, hs, hv, hc, hd, h45, h53, h61, h46, h118, h119, h122]; omega), by simp, ?_⟩
    rw [p8 f1 g [], p8 f2 g [], p8 f3 g [], p8 f4 g []]
    try rfl
  · refine ⟨by first | (simp [wordOk, -List.all_eq_true, hn, hs, hv, hc, hd, h45, h53, h61, h46, h118, h119, h122]; done) | (simp [wordOk, -List.all_eq_true, hn, hs, hv, hc, hd, h45, h53, h61, h46, h118, h119, h122]; omega), by simp, ?_⟩
    rw [p9 f1 g [], p9 f2 g [], p9 f3 g [], p9 f4 g []]
    try rfl
  · refine ⟨by first | (simp [wordOk, -List.all_eq_true, hn, hs, hv, hc, hd, h45, h53, h61, h46, h118, h119, h122]; done) | (simp [wordOk, -List.all_eq_true, hn, hs, hv, hc, hd, h45, h53, h61, h46, h118, h119, h122]; omega), by simp, ?_⟩
    rw [p10 f1 g [], p10 f2 g [], p10 f3 g [], p10 f4 g []]
    try rfl
  · refine ⟨by first | (simp [wordOk, -List.all_eq_true, hn, hs, hv, hc, hd, h45, h53, h61, h46, h118, h119, h122]; done) | (simp [wordOk, -List.all_eq_true, hn, hs, hv, hc, hd, h45, h53, h61, h46, h118, h119, h122]; omega), by simp, ?_⟩
    rw [p11 f1 g [], p11 f2 g [], p11 f3 g [], p11 f4 g []]
    try rfl
  · refine ⟨by first | (simp [wordOk, -List.all_eq_true, hn, hs, hv, hc, hd, h45, h53, h61, h46, h118, h119, h122]; done) | (simp [wordOk, -List.all_eq_true, hn, hs, hv, hc, hd, h45, h53, h61, h46, h118, h119, h122]; omega), by simp, ?_⟩
    rw [p12 f1 g [], p12 f2 g [], p12 f3 g [], p12 f4 g []]
    try rfl
  · refine ⟨by first | (simp [wordOk, -List.all_eq_true, hn, hs, hv, hc, hd, h45, h53, h61, h46, h118, h119, h122]; done) | (simp [wordOk, -List.all_eq_true, hn, hs, hv, hc, hd, h45, h53, h61, h46, h118, h119, h122]; omega), by simp, ?_⟩
    rw [p13 f1 g [], p13 f2 g [], p13 f3 g [], p13 f4 g []]
    try rfl
  · refine ⟨by first | (simp [wordOk, -List.all_eq_true, hn, hs, hv, hc, hd, h45, h53, h61, h46, h118, h119, h122]; done) | (simp [wordOk, -List.all_eq_true, hn, hs, hv, hc, hd, h45, h53, h61, h46, h118, h119, h122]; omega), by simp, ?_⟩
    rw [p14 f1 g [], p14 f2 g [], p14 f3 g [], p14 f4 g []]
    try rfl
  · refine ⟨by first | (simp [wordOk, -List.all_eq_true, hn, hs, hv, hc, hd, h45, h53, h61, h46, h118, h119, h122]; done) | (simp [wordOk, -List.all_eq_true, hn, hs, hv, hc, hd, h45, h53, h61, h46, h118, h119, h122]; omega), by simp, ?_⟩
    rw [p15 f1 g [], p15 f2 g [], p15 f3 g [], p15 f4 g []]
    try rfl
  · refine ⟨by first | (simp [wordOk, -List.all_eq_true, hn, hs, hv, hc, hd, h45, h53, h61, h46, h118, h119, h122]; done) | (simp [wordOk, -List.all_eq_true, hn, hs, hv, hc, hd, h45, h53, h61, h46, h118, h119, h122]; omega), by simp, ?_⟩
    rw [p16 f1 g [], p16 f2 g [], p16 f3 g [], p16 f4 g []]
    try rfl
  · refine ⟨by first | (simp [wordOk, -List.all_eq_true, hn, hs, hv, hc, hd, h45, h53, h61, h46, h118, h119, h122]; done) | (simp [wordOk, -List.all_eq_true, hn, hs, hv, hc, hd, h45, h53, h61, h46, h118, h119, h122]; omega), by simp, ?_⟩
    rw [p17 f1 g [], p17 f2 g [], p17 f3 g [], p17 f4 g []]
    try rfl
  · refine ⟨by first | (simp [wordOk, -List.all_eq_true, hn, hs, hv, hc, hd, h45, h53, h61, h46, h118, h119, h122]; done) | (simp [wordOk, -List.all_eq_true, hn, hs, hv, hc, hd, h45, h53, h61, h46, h118, h119, h122]; omega), by simp, ?_⟩
    rw [p18 f1 g [], p18 f2 g [], p18 f3 g [], p18 f4 g []]
    try rfl
  · refine ⟨by first | (simp [wordOk, -List.all_eq_true, hn, hs, hv, hc, hd, h45, h53, h61, h46, h118, h119, h122]; done) | (simp [wordOk, -List.all_eq_true, hn, hs, hv, hc, hd, h45, h53, h61, h46, h118, h119, h122]; omega), by simp, ?_⟩
    rw [p19 f1 g [], p19 f2 g [], p19 f3 g [], p19 f4 g []]
    try rfl
  · refine ⟨by first | (simp [wordOk, -List.all_eq_true, hn, hs, hv, hc, hd, h45, h53, h61, h46, h118, h119, h122]; done) | (simp [wordOk, -List.all_eq_true, hn, hs, hv, hc, hd, h45, h53, h61, h46, h118, h119, h122]; omega), by simp, ?_⟩
    rw [p20 f1 g [], p20 f2 g [], p20 f3 g [], p20 f4 g []]
    try rfl
  · refine ⟨by first | (simp [wordOk, -List.all_eq_true, hn, hs, hv, hc, hd, h45, h53, h61, h46, h118, h119, h122]; done) | (simp [wordOk, -List.all_eq_true, hn, hs, hv, hc, hd, h45, h53, h61, h46, h118, h119, h122]; omega), by simp, ?_⟩
    rw [p21 f1 g vl, p21 f2 g vl, p21 f3 g vl, p21 f4 g vl]
    try rfl
  · refine ⟨by first | (simp [wordOk, -List.all_eq_true, hn, hs, hv, hc, hd, h45, h53, h61, h46, h118, h119, h122]; done) | (simp [wordOk, -List.all_eq_true, hn, hs, hv, hc, hd, h45, h53, h61, h46, h118, h119, h122]; omega), by simp, ?_⟩
    rw [p22 f1 g [], p22 f2 g [], p22 f3 g [], p22 f4 g []]
    try rfl
  · refine ⟨by first | (simp [wordOk, -List.all_eq_true, hn, hs, hv, hc, hd, h45, h53, h61, h46, h118, h119, h122]; done) | (simp [wordOk, -List.all_eq_true, hn, hs, hv, hc, hd, h45, h53, h61, h46, h118, h119, h122]; omega), by simp, ?_⟩
    rw [p23 f1 g [], p23 f2 g [], p23 f3 g [], p23 f4 g []]
    try rfl
  · refine ⟨by first | (simp [wordOk, -List.all_eq_true, hn, hs, hv, hc, hd, h45, h53, h61, h46, h118, h119, h122]; done) | (simp [wordOk, -List.all_eq_true, hn, hs, hv, hc, hd, h45, h53, h61, h46, h118, h119, h122]; omega), by simp, ?_⟩
    rw [p24 f1 g vl, p24 f2 g vl, p24 f3 g vl, p24 f4 g vl]
    try rfl
  · refine ⟨by first | (simp [wordOk, -List.all_eq_true, hn, hs, hv, hc, hd, h45, h53, h61, h46, h118, h119, h122]; done) | (simp [wordOk, -List.all_eq_true, hn, hs, hv, hc, hd, h45, h53, h61, h46, h118, h119, h122]; omega), by simp, ?_⟩
    rw [p25 f1 g [], p25 f2 g [], p25 f3 g [], p25 f4 g []]
    try rfl
theorem rows3_so : ∀ r ∈ rows3, (∀ l ∈ r.1, wordOk l = true) ∧ r.1.length ≤ 80 ∧ r.2 = [lastsF (gr3 nm c d) r.1] := by
  have c5 : c ≠ 53 := by have := g.c_; omega
  have d5 : d ≠ 53 := by have := g.d_; omega
  have c7 : c ≠ 55 := by have := g.c_; omega
  have d7 : d ≠ 55 := by have := g.d_; omega
  have hz := g.nz2 [121]
  have l5 : letterF (gr3 nm c d) [53] = some [122, 121] := by simp [letterF, gr3, List.filter, List.find?, c5, d5]
  have l7 : letterF (gr3 nm c d) [55] = none := by simp [letterF, gr3, List.filter, List.find?, c7, d7]
  have ky : kindOf (gr3 nm c d) [122, 121] = kFlag := by simp [kindOf, kindF, gr3, List.find?, hz]
  have f5 : mem sgFigure 53 = true := by decide +kernel
  have rn : readsNum (gr3 nm c d) = false := by simp [readsNum, gr3, f5]
  have mx : (gr3 nm c d).mixed = true := rfl
  have dl : ∀ n, dealOk (gr3 nm c d).pls n = true := fun n => by
    have h1 : arityCount (gr3 nm c d).pls aOne = 0 := by show arityCount [([105, 110], aMany)] aOne = 0; decide
    have h2 : arityCount (gr3 nm c d).pls aMany = 1 := by show arityCount [([105, 110], aMany)] aMany = 1; decide
    unfold dealOk
    rw [h1, h2]
    simp
  intro r hr
  simp only [rows3, List.mem_cons, List.not_mem_nil, or_false] at hr
  rcases hr with rfl | rfl | rfl | rfl | rfl | rfl
  · refine ⟨by decide +kernel, by simp, ?_⟩
    simp [lastsF, acceptedF, lineF, wordF, rs0, dashed, valueless, giveF, placeF, lettersF, l5, l7, ky, rn, mx, dl]
  · refine ⟨by decide +kernel, by simp, ?_⟩
    simp [lastsF, acceptedF, lineF, wordF, rs0, dashed, valueless, giveF, placeF, lettersF, l5, l7, ky, rn, mx, dl]
  · refine ⟨by decide +kernel, by simp, ?_⟩
    simp [lastsF, acceptedF, lineF, wordF, rs0, dashed, valueless, giveF, placeF, lettersF, l5, l7, ky, rn, mx, dl]
  · refine ⟨by decide +kernel, by simp, ?_⟩
    simp [lastsF, acceptedF, lineF, wordF, rs0, dashed, valueless, giveF, placeF, lettersF, l5, l7, ky, rn, mx, dl]
  · refine ⟨by decide +kernel, by simp, ?_⟩
    simp [lastsF, acceptedF, lineF, wordF, rs0, dashed, valueless, giveF, placeF, lettersF, l5, l7, ky, rn, mx, dl]
  · refine ⟨by decide +kernel, by simp, ?_⟩
    simp [lastsF, acceptedF, lineF, wordF, rs0, dashed, valueless, giveF, placeF, lettersF, l5, l7, ky, rn, mx, dl]
theorem rows0_so : ∀ r ∈ rows0 d, (∀ l ∈ r.1, wordOk l = true) ∧ r.1.length ≤ 80 ∧ r.2 = [lastsF (gr0 nm c d) r.1] := by
  have hd : d ≠ 45 := by have := g.d_; omega
  have hcd := g.cd
  have hz := g.nz
  have wd : mem sgWord d = true := (mem_az (by have := g.d_; omega)).2.1
  have w45 : mem sgWord 45 = true := by decide +kernel
  have hc := g.c_
  have hd1 := g.d_
  have ld : letterF (gr0 nm c d) [d] = some zz := by simp [letterF, gr0, List.filter, List.find?, hcd]
  have kz : kindOf (gr0 nm c d) zz = kCount := by simp [kindOf, kindF, gr0, List.find?, hz]
  have rn : readsNum (gr0 nm c d) = true := by simp [readsNum, gr0, (mem_az (x := c) (by omega)).2.2.2, (mem_az (x := d) (by omega)).2.2.2]
  have mx : (gr0 nm c d).mixed = true := rfl
  have d0 : dealOk (gr0 nm c d).pls 0 = true := by show dealOk [] 0 = true; decide
  have d1 : dealOk (gr0 nm c d).pls 1 = false := by show dealOk [] 1 = false; decide
  intro r hr
  simp only [rows0, List.mem_cons, List.not_mem_nil, or_false] at hr
  rcases hr with rfl | rfl | rfl | rfl
  · refine ⟨by decide +kernel, by simp, ?_⟩
    simp [lastsF, acceptedF, lineF, wordF, rs0, dashed, valueless, giveF, placeF, lettersF, ld, kz, rn, mx, d0, d1, n5, hd, g.numd]
  · refine ⟨by decide +kernel, by simp, ?_⟩
    simp [lastsF, acceptedF, lineF, wordF, rs0, dashed, valueless, giveF, placeF, lettersF, ld, kz, rn, mx, d0, d1, n5, hd, g.numd]
  · refine ⟨by decide +kernel, by simp, ?_⟩
    simp [lastsF, acceptedF, lineF, wordF, rs0, dashed, valueless, giveF, placeF, lettersF, ld, kz, rn, mx, d0, d1, n5, hd, g.numd]
  · refine ⟨by simp [wordOk, wd, w45], by simp, ?_⟩
    simp [lastsF, acceptedF, lineF, wordF, rs0, dashed, valueless, giveF, placeF, lettersF, ld, kz, rn, mx, d0, d1, n5, hd, g.numd]
end
end KL

set_option Elab.async false
set_option maxRecDepth 100000
set_option maxHeartbeats 4000000
namespace K9
open PySem PySem.Spec PyProof.Rows L2 SX Evl KL
def top (i : Nat) : Stmt := PySem.Challenge.pw_keptlines_k09_lasting_by_hand.main.body.getD i (.Pass ⟨0, 0, 0, 0⟩)
section
variable {P : Program} {w : World} {K : PySem.W.Frag} {mg : Str → Option Value} {base : Heap} {f : Addr} {fd : FuncData}
abbrev s_law_mixed : Stmt := top 46
theorem sc_law_mixed : FnScope ["cell", "k"] ["cell", "k"] (C8.fnScope s_law_mixed) := C8.fnScope_by (by decide +kernel)
theorem ok_mixed (F : C8.Def K mg "_law_mixed" s_law_mixed f fd) (b : Binds K fd ["cell", "k"] []) (B : Blt mg) : C8.Cal P w K mg base 1 "_law_mixed" spMixed [] :=
  C8.cal0 F b .nil sc_law_mixed (fun vs H Q E h => by obtain ⟨c, k, rfl, _⟩ := h; rfl) fun cdv A outer s H vs Q E hr h => by
    have nd := sc_law_mixed.nd
    obtain ⟨c, k, rfl, h1, h2, q⟩ := h
    refine ⟨_, (pss_cons (ps_set (i := 0) nd rfl (by first | exact Or.inl rfl | exact Or.inr rfl) (pe_op op_modN (pe_callTy (T := "int") call_int1 (by rfl) B.int_ (by decide +kernel) (pa_cons (pv 0) pa_nil)) pe_int))
      (pss_one (ps_ret (pe_op op_modN (pe_op op_mul (pe_op op_modN (pe_op op_add (pe_op op_add (pe_op op_mul (pv 0) (pe_op op_add pe_int (pe_op op_mul (pe_op op_mul pe_int (pv 1)) (pv 1)))) (pe_op op_mul pe_int (pv 1))) pe_int) pe_int) pe_int) pe_int)))), ?_⟩
    have z1 : (2147483647 : Int) ≠ 0 := by decide
    have z2 : (2147483629 : Int) ≠ 0 := by decide
    have b1 := fmod_bounds c 2147483647 (by decide)
    have k2 : 2 * k * k < 20000000000000001 := by
      have : k * k ≤ 100000000 * 100000000 := Int.mul_le_mul (by omega) (by omega) h1 (by decide)
      have e : 2 * k * k = 2 * (k * k) := by rw [Int.mul_assoc]
      omega
    have b2 := fmod_bounds (c.fmod 2147483647 * (48271 + 2 * k * k) + 69621 * k + 11) 2147483647 (by decide)
    refine ⟨_, rfl, .inl ⟨_, rfl, _, _, rfl, rfl, z1, ?_⟩⟩
    refine ⟨_, rfl, _, rfl, _, _, rfl, rfl, .inl ⟨by decide, by decide⟩, _, rfl, _, _, rfl, rfl, .inr ⟨by omega, by omega⟩, _, _, rfl, rfl, _, _, rfl, rfl, .inl ⟨by omega, by omega⟩, ?_⟩
    refine ⟨_, rfl, _, _, rfl, rfl, .inl ⟨by decide, by decide⟩, _, _, rfl, rfl, _, _, rfl, rfl, _, _, rfl, rfl, z1, _, _, rfl, rfl, .inr ⟨by decide, by decide⟩, _, _, rfl, rfl, z2, ?_⟩
    have b3 := fmod_bounds ((c.fmod 2147483647 * (48271 + 2 * k * k) + 69621 * k + 11).fmod 2147483647 * 69621) 2147483629 (by decide)
    exact q _ _ b3.1 b3.2 (Ex.refl _)
abbrev s_law_begin : Stmt := top 47
theorem sc_law_begin : FnScope ["script", "cells", "cell"] ["script"] (C8.fnScope s_law_begin) := C8.fnScope_by (by decide +kernel)
theorem ok_begin (F : C8.Def K mg "_law_begin" s_law_begin f fd) (b : Binds K fd ["script"] []) (B : Blt mg) : C8.Cal P w K mg base 1 "_law_begin" (spBegin K) [] :=
  C8.cal0 F b .nil sc_law_begin (fun vs H Q E h => by obtain ⟨a, ns, rfl, _⟩ := h; rfl) fun cdv A outer s H vs Q E hr h => by
    have nd := sc_law_begin.nd
    have hu := hu_of hr
    obtain ⟨a, ns, rfl, hS, hl, q⟩ := h
    refine ⟨_, (C8.pss_cut (ps_set (i := 1) nd rfl (by first | exact Or.inl rfl | exact Or.inr rfl) (pe_ifExp (pt_cmpR (op_neD hr.units) (pv 0) (pe_lst pa_nil) (nomark _)) (pe_callTy (T := "list") call_list_of (by rfl) B.list_ (by decide +kernel) (pa_cons (pv 0) pa_nil)) (pe_lst (pa_cons pe_int pa_nil))))
      (pss_one (ps_ret (pe_disp (pps_cons pe_str (pv 1) (pps_cons pe_str (pe_lc (own := [("cell", 2)]) rfl nd (pi_list (pv 1)) (blkOk_by (N := ["script", "cells", "cell"]) (sc := C8.fnScope s_law_begin) (by decide +kernel)) (fun _ _ _ _ _ => (pg_name (i := 2) nd rfl (by first | exact Or.inl rfl | exact Or.inr rfl))) (fun _ _ _ _ _ => pts_nil) (fun _ _ _ _ _ => (pe_ifExp (pt_cmpR op_ge (pv 2) (pe_op op_pow pe_int pe_int) (nomark _)) (pv 2) pe_int))) (pps_cons pe_str pe_int (pps_cons pe_str pe_int pps_nil)))) rfl rfl (by simp) (by decide))))), ?_⟩
    -- cells = list(script) if script != [] else [0]
    refine ⟨fun σ H1 => ∃ (D : Addr) (cs : List Int), σ = [some (.ref a), some (.ref D), none] ∧ Ex H H1 ∧ H D = none ∧ H1 D = some (.lst (cs.map V.int)) ∧ 0 < cs.length ∧ cs.length ≤ 100, ?_, ?_⟩
    · refine ⟨_, rfl, Nat.zero_le _, fun e he => ?_⟩
      have x1 : Ex H (upd H e (.lst [])) := Ex.new he
      refine ⟨.list (ns.map PyData.int), .list [], .lst (ex_l x1 hS) (dp_ints _ _ ns), .lst (sq_of upd_same) .nil, shaped_ints (by omega), shaped_nil, _, rfl, ?_⟩
      rw [eqv_ints_nil]
      cases ns with
      | nil =>
        refine iteF ⟨small1000 (by decide) |> Nat.le_of_lt, fun D hD => ⟨D, [0], rfl, x1.trans (Ex.new hD), fresh_back x1 hD, upd_same, by decide, by decide⟩⟩
      | cons n r =>
        refine iteT ⟨_, rfl, a, _, rfl, .inl (ex_l x1 hS), fun D hD => ⟨D, n :: r, rfl, x1.trans (Ex.new hD), fresh_back x1 hD, upd_same, by simp, by omega⟩⟩
    · rintro σ H1 ⟨D, cs, rfl, x1, nD, hD, l1, l2⟩
      intro st hst
      have x2 : Ex H1 (upd H1 st (.dK [])) := Ex.new hst
      have hD2 := x2 _ _ hD
      refine ⟨_, rfl, _, rfl, D, rfl, ⟨_, sq_of hD2⟩, fun L hL => ?_⟩
      refine lc_ys (L2.walk_list (K := K) (a := D) (xs := cs.map V.int)) cs (by rw [List.length_map]) (by rw [List.length_map]; omega) (fun _ => true) (fun c => .int (if 10 ^ 18 ≤ c then c else 0)) hL (fun H2 e2 => sq_of (e2 _ _ hD2)) ?_ ?_
      · rintro i c x H2 H3 hi e2 ⟨rfl, hx⟩ Z N hz hn
        rw [List.getElem?_map, hi] at hx
        obtain rfl : V.int c = x := Option.some.inj hx
        refine ⟨rfl, ?_⟩
        refine iteT (B := N H3) ?_
        refine ⟨_, rfl, _, _, rfl, rfl, ⟨by decide, by decide, by decide⟩, _, _, rfl, rfl, _, rfl, ?_⟩
        by_cases hc : (10 : Int) ^ 18 ≤ c
        · have e := hz H3 (Ex.refl _) rfl
          rw [if_pos hc] at e
          rw [decide_eq_true (show (10 : Int) ^ (18 : Int).toNat ≤ c from hc)]
          exact iteT ⟨_, rfl, e⟩
        · have e := hz H3 (Ex.refl _) rfl
          rw [if_neg hc] at e
          rw [decide_eq_false (show ¬ (10 : Int) ^ (18 : Int).toNat ≤ c from hc)]
          exact iteF e
      · intro H2 e2 hL2
        refine ⟨e2 _ _ upd_same, [(Sum.inr "cells", .ref D), (Sum.inr "lefts", .ref L), (Sum.inr "at", .int 0), (Sum.inr "room", .int 0)], rfl, (by show 4 ≤ 15; decide), ?_⟩
        have nst : ∀ b o, H b = some o → b ≠ st := fun b o e => ne_of_none (x1 _ _ e) hst
        have nL : H L = none := by
          have z := fresh_back (x1.trans x2) hL
          exact z
        have nDs : D ≠ st := ne_of_none hD hst
        have nLs : L ≠ st := fun z => by rw [z, upd_same] at hL; cases hL
        have nDL : D ≠ L := ne_of_none hD2 hL
        rw [show (List.filter (fun _ => true) cs) = cs from List.filter_eq_self.mpr (fun _ _ => rfl)] at hL2
        have mg4 : mergeK [] [(Sum.inr "cells", V.ref D), (Sum.inr "lefts", V.ref L), (Sum.inr "at", V.int 0), (Sum.inr "room", V.int 0)] = stK D L 0 := by
          have h1 : ¬ ((Sum.inr "cells" : Key) = (Sum.inr "lefts" : Key)) := by decide +kernel
          have h2 : ¬ ((Sum.inr "cells" : Key) = (Sum.inr "at" : Key)) := by decide +kernel
          have h3 : ¬ ((Sum.inr "cells" : Key) = (Sum.inr "room" : Key)) := by decide +kernel
          have h4 : ¬ ((Sum.inr "lefts" : Key) = (Sum.inr "at" : Key)) := by decide +kernel
          have h5 : ¬ ((Sum.inr "lefts" : Key) = (Sum.inr "room" : Key)) := by decide +kernel
          have h6 : ¬ ((Sum.inr "at" : Key) = (Sum.inr "room" : Key)) := by decide +kernel
          unfold mergeK putK
          simp [h1, h2, h3, h4, h5, h6]
        rw [mg4]
        refine q st L _ ⟨⟨D, cs, cs.map fun c => if 10 ^ 18 ≤ c then c else 0, upd_same, ?_, ?_, nDL, by rw [List.length_map], l1, l2⟩, by decide⟩ ?_ (fresh_back x1 hst) nL
        · rw [upd_ne nDs]
          exact e2 _ _ hD2
        · rw [upd_ne nLs, hL2, List.map_map]
          rfl
        · intro b o e
          rw [upd_ne (nst b o e)]
          exact e2 _ _ (x2 _ _ (x1 _ _ e))
abbrev s_law_draw : Stmt := top 48
theorem sc_law_draw : FnScope ["state", "many", "at", "place", "left", "number"] ["state", "many"] (C8.fnScope s_law_draw) := C8.fnScope_by (by decide +kernel)
theorem ok_draw (F : C8.Def K mg "_law_draw" s_law_draw f fd) (b : Binds K fd ["state", "many"] []) (B : Blt mg) (C__law_mixed : C8.Cal P w K mg base 1 "_law_mixed" spMixed []) : C8.Cal P w K mg base 2 "_law_draw" spDraw [] :=
  C8.cal0 F b .nil sc_law_draw (fun vs H Q E h => by obtain ⟨st, dL, n, m, rfl, _⟩ := h; rfl) fun cdv A outer s H vs Q E hr h => by
    have nd := sc_law_draw.nd
    have hu := hu_of hr
    obtain ⟨st, dL, n, m, rfl, S, h1, h2, h3, q⟩ := h
    refine ⟨_, (pss_cons (ps_set (i := 2) nd rfl (by first | exact Or.inl rfl | exact Or.inr rfl) (pe_dget hu (pv 0) pe_str (fun _ _ => rfl)))
      (pss_cons (ps_dput hu (pv 0) pe_str (pe_op op_add (pv 2) pe_int) rfl)
      (pss_cons (ps_set (i := 3) nd rfl (by first | exact Or.inl rfl | exact Or.inr rfl) (pe_op op_modN (pe_callTy (T := "int") call_int1 (by rfl) B.int_ (by decide +kernel) (pa_cons (pv 2) pa_nil)) (pe_callB (id := "len") call_len_seq (by rfl) B.len_ (by decide +kernel) (pa_cons (pe_dget hu (pv 0) pe_str (fun _ _ => rfl)) pa_nil))))
      (pss_cons (ps_set (i := 4) nd rfl (by first | exact Or.inl rfl | exact Or.inr rfl) (pe_ix ix_list (pe_dget hu (pv 0) pe_str (fun _ _ => rfl)) (pv 3) (fun _ _ => rfl)))
      (pss_cons (ps_if (pt_cmpR op_gt (pv 4) pe_int (nomark _)) (pss_cons (ps_asg (pe_op op_fdivN (pv 4) (pv 1)) (pg_sub (pe_dget hu (pv 0) pe_str (fun _ _ => rfl)) (pv 3) set_list))
      (pss_one (ps_ret (pe_op op_modN (pe_callTy (T := "int") call_int1 (by rfl) B.int_ (by decide +kernel) (pa_cons (pv 4) pa_nil)) (pv 1))))) pss_nil)
      (pss_cons (ps_set (i := 5) nd rfl (by first | exact Or.inl rfl | exact Or.inr rfl) (C8.pe_c C__law_mixed hr (by decide) rfl (pa_cons (C8.pe_c C__law_mixed hr (by decide) rfl (pa_cons (pe_ix ix_list (pe_dget hu (pv 0) pe_str (fun _ _ => rfl)) (pv 3) (fun _ _ => rfl)) (pa_cons (pv 2) pa_nil))) (pa_cons (pe_op op_add pe_int (pv 2)) pa_nil))))
      (pss_one (ps_ret (pe_op op_modN (pe_op op_fdivN (pe_callTy (T := "int") call_int1 (by rfl) B.int_ (by decide +kernel) (pa_cons (pe_op op_add (pe_op op_mul (pv 5) pe_int) (C8.pe_c C__law_mixed hr (by decide) rfl (pa_cons (pv 5) (pa_cons (pe_op op_add pe_int (pv 2)) pa_nil)))) pa_nil)) pe_int) (pv 1)))))))))), ?_⟩
    obtain ⟨⟨dC, cs, ls, e1, e2, e3, ne, l1, l2, l3⟩, n0⟩ := S
    have nsC : st ≠ dC := ne_of e1 e2 (by intro z; cases z)
    have nsL : st ≠ dL := ne_of e1 e3 (by intro z; cases z)
    -- at = state['at']; state['at'] = at + 1
    refine ⟨_, rfl, st, _, rfl, .inl ⟨_, Sum.inr "at", .inl e1, rfl, (st_at _ _ _).symm⟩, ?_⟩
    refine ⟨_, rfl, _, _, rfl, rfl, _, rfl, st, _, rfl, DPut.k (k := Sum.inr "at") e1 (small1000 (by show 4 ≤ 1000; decide)), ?_⟩
    rw [st_put]
    have g1 : upd H st (stO dC dL (n + 1)) st = some (stO dC dL (n + 1)) := upd_same
    have g2 : upd H st (stO dC dL (n + 1)) dC = some (.lst (cs.map V.int)) := by rw [upd_ne nsC.symm]; exact e2
    have g3 : upd H st (stO dC dL (n + 1)) dL = some (.lst (ls.map V.int)) := by rw [upd_ne nsL.symm]; exact e3
    -- place = int(at) % len(state['cells'])
    have lz : (((cs.map V.int).length : Nat) : Int) ≠ 0 := by rw [List.length_map]; omega
    refine ⟨_, rfl, .inl ⟨_, rfl, _, rfl, st, _, rfl, .inl ⟨_, Sum.inr "cells", .inl g1, rfl, (st_cells _ _ _).symm⟩, dC, _, rfl, .inl (.inl (.inl g2)), _, _, rfl, rfl, lz, ?_⟩⟩
    have pb := fmod_bounds n (((cs.map V.int).length : Nat) : Int) (by rw [List.length_map]; omega)
    rw [List.length_map] at pb
    obtain ⟨p, hq⟩ : ∃ p, n.fmod (((cs.map V.int).length : Nat) : Int) = p := ⟨_, rfl⟩
    have hp := hq
    rw [List.length_map] at hp
    rw [hp] at pb
    have hV := congrArg V.int hq
    obtain ⟨j, hj⟩ : ∃ j : Nat, p = (j : Int) := ⟨p.toNat, by omega⟩
    have jl : j < ls.length := by omega
    have jc : j < cs.length := by omega
    have aL : atI (ls.map V.int) p = some (V.int ls[j]) := at_of hj (by rw [List.getElem?_map, List.getElem?_eq_getElem jl]; rfl)
    have aC : atI (cs.map V.int) p = some (V.int cs[j]) := at_of hj (by rw [List.getElem?_map, List.getElem?_eq_getElem jc]; rfl)
    generalize ls[j] = left at aL
    generalize cs[j] = cell at aC
    -- left = state['lefts'][place]
    refine ⟨_, rfl, st, _, rfl, .inl ⟨_, Sum.inr "lefts", .inl g1, rfl, (st_lefts _ _ _).symm⟩, _, rfl, dL, _, p, V.int left, rfl, hV, .inl (.inl g3), aL, ?_⟩
    refine ⟨_, rfl, _, _, rfl, rfl, _, rfl, ?_⟩
    have mz : m ≠ 0 := by omega
    have chg : Chg st dL H (upd H st (stO dC dL (n + 1))) := fun b o e h1 _ => by rw [upd_ne h1]; exact e
    by_cases hpos : 0 < left
    · rw [decide_eq_true hpos]
      refine iteT ?_
      -- state['lefts'][place] = left // many; return int(left) % many
      refine ⟨_, rfl, _, rfl, _, _, rfl, rfl, ⟨mz, by omega⟩, ?_⟩
      refine ⟨_, rfl, st, _, rfl, .inl ⟨_, Sum.inr "lefts", .inl g1, rfl, (st_lefts _ _ _).symm⟩, _, rfl, dL, _, p, j, rfl, hV, g3, ?_, ?_⟩
      · rw [List.length_map]
        unfold ixN
        rw [if_pos (by omega)]
        rw [if_pos (by omega)]
        refine congrArg some ?_
        omega
      refine ⟨_, rfl, .inl ⟨_, rfl, _, rfl, _, _, rfl, rfl, mz, ?_⟩⟩
      have rb := fmod_bounds left m h2
      refine q _ _ rb.1 rb.2 ⟨⟨dC, cs, ls.set j (left.fdiv m), ?_, ?_, ?_, ne, by rw [List.length_set]; exact l1, l2, l3⟩, by omega⟩ ?_
      · rw [upd_ne nsL]; exact g1
      · rw [upd_ne ne]; exact g2
      · rw [upd_same, List.map_set]
      · intro b o e n1 n2
        rw [upd_ne n2, upd_ne n1]
        exact e
    · rw [decide_eq_false hpos]
      refine iteF ?_
      -- number = _law_mixed(_law_mixed(state['cells'][place], at), 40 + at)
      refine ⟨_, rfl, st, _, rfl, .inl ⟨_, Sum.inr "cells", .inl g1, rfl, (st_cells _ _ _).symm⟩, _, rfl, dC, _, p, V.int cell, rfl, hV, .inl (.inl g2), aC, _, rfl, cell, n, rfl, n0, by omega, fun r1 H2 r10 r11 x2 => ?_⟩
      refine ⟨_, rfl, _, _, rfl, rfl, r1, _, rfl, by omega, by omega, fun r2 H3 r20 r21 x3 => ?_⟩
      refine ⟨_, rfl, _, _, rfl, rfl, .inl ⟨by omega, by omega⟩, _, rfl, _, rfl, _, _, rfl, rfl, r2, _, rfl, by omega, by omega, fun r3 H4 r30 r31 x4 => ?_⟩
      refine ⟨_, _, rfl, rfl, .inl ⟨_, rfl, _, _, rfl, rfl, ⟨by decide, by decide⟩, _, rfl, _, _, rfl, rfl, mz, ?_⟩⟩
      have rb := fmod_bounds ((r2 * 2147483647 + r3).fdiv 64) m h2
      have x : Ex (upd H st (stO dC dL (n + 1))) H4 := (x2.trans x3).trans x4
      exact q _ _ rb.1 rb.2 ⟨⟨dC, cs, ls, x _ _ g1, x _ _ g2, x _ _ g3, ne, l1, l2, l3⟩, by omega⟩ fun b o e n1 n2 => x _ _ (chg b o e n1 n2)
end
end K9

set_option Elab.async false
set_option maxRecDepth 100000
set_option maxHeartbeats 4000000
namespace K9
open PySem PySem.Spec PyProof.Rows L2 SX Evl KL
section
variable {P : Program} {w : World} {K : PySem.W.Frag} {mg : Str → Option Value} {base : Heap} {f : Addr} {fd : FuncData} {aK aA aV aL : Addr}
abbrev s_made_of : Stmt := top 14
theorem sc_made_of : FnScope ["text", "signs", "sign"] ["text", "signs"] (C8.fnScope s_made_of) := C8.fnScope_by (by decide +kernel)
theorem ok_made (F : C8.Def K mg "made_of" s_made_of f fd) (b : Binds K fd ["text", "signs"] []) (B : Blt mg) : C8.Cal P w K mg base 1 "made_of" spMade [] :=
  C8.cal0 F b .nil sc_made_of (fun vs H Q E h => h.1) fun cdv A outer s H vs Q E hr h => by
    have nd := sc_made_of.nd
    obtain ⟨_, v, ⟨l, m, rfl, hl, rfl⟩, q⟩ := h
    refine ⟨_, (pss_one (ps_ret (pe_callB (cr_all rfl) (by rfl) B.all_ (by decide +kernel) (pa_cons (pe_lc (own := [("sign", 2)]) rfl nd (pi_str (pv 0)) (blkOk_by (N := ["text", "signs", "sign"]) (sc := C8.fnScope s_made_of) (by decide +kernel)) (fun _ _ _ _ _ => (pg_name (i := 2) nd rfl (by first | exact Or.inl rfl | exact Or.inr rfl))) (fun _ _ _ _ _ => pts_nil) (fun _ _ _ _ _ => (pe_cmpR op_in_sign (pv 2) (pv 1) (by rfl)))) pa_nil)))), ?_⟩
    refine ⟨_, rfl, _, rfl, fun D hD => ?_⟩
    refine lc_ys (walk_str (z := S l)) l (by simp [S]) (by simp [S]; omega) (fun _ => true) (fun c => .bl (mem m c)) hD (fun _ _ => trivial) ?_ ?_
    · rintro i c x H2 H3 hi e2 ⟨rfl, c', hc, rfl⟩ Z N hz hn
      have hc' : l[i]? = some c' := by simpa [S] using hc
      rw [hi] at hc'
      cases hc'
      refine ⟨rfl, ?_⟩
      refine iteT (B := N H3) ?_
      exact ⟨_, rfl, _, rfl, _, _, rfl, rfl, hz H3 (Ex.refl _) rfl⟩
    · intro H2 e2 h2
      rw [show (List.filter (fun _ => true) l) = l from List.filter_eq_self.mpr (fun _ _ => rfl)] at h2
      refine ⟨D, l.map (mem m), rfl, sq_of (by rw [h2, List.map_map]; rfl), ?_⟩
      have e : (l.map (mem m)).all id = l.all (mem m) := by rw [List.all_map]; rfl
      rw [e]
      exact q H2 e2
abbrev s_is_word : Stmt := top 15
theorem sc_is_word : FnScope ["thing"] ["thing"] (C8.fnScope s_is_word) := C8.fnScope_by (by decide +kernel)
theorem ok_word (F : C8.Def K mg "is_word" s_is_word f fd) (b : Binds K fd ["thing"] []) (B : Blt mg) (T : Csts K mg aK aA aV aL) (C_made_of : C8.Cal P w K mg base 1 "made_of" spMade []) : C8.Cal P w K mg base 2 "is_word" spWord [] :=
  C8.cal0 F b .nil sc_is_word (fun vs H Q E h => h.1) fun cdv A outer s H vs Q E hr h => by
    have nd := sc_is_word.nd
    obtain ⟨_, v, ⟨l, rfl, hl, rfl⟩, q⟩ := h
    refine ⟨_, (pss_one (ps_ret (pe_and (pe_callB call_isi (by rfl) B.isinstance_ (by decide +kernel) (pa_cons (pv 0) (pa_cons (pe_bltn (v := .ty "str") (by rfl) B.str_ (by decide +kernel) rfl) pa_nil))) (pe_and (pe_cmpR op_le (pe_callB call_len_str (by rfl) B.len_ (by decide +kernel) (pa_cons (pv 0) pa_nil)) (C8.pe_gc rfl (T.g_MOST_SIGNS)) (nomark _)) (pe_one (C8.pe_c C_made_of hr (by decide) rfl (pa_cons (pv 0) (pa_cons (C8.pe_gc rfl (T.g_SIGNS)) pa_nil)))))))), ?_⟩
    refine ⟨_, rfl, _, _, _, _, true, rfl, .ty "str", isStr _, kStr, true, rfl, iteT ?_⟩
    refine ⟨_, rfl, _, rfl, len1000 hl, _, _, rfl, rfl, _, rfl, ?_⟩
    rw [S_len]
    by_cases h80 : l.length ≤ 80
    · rw [decide_eq_true (show (l.length : Int) ≤ 80 by omega)]
      refine iteT ⟨_, rfl, rfl, _, ⟨l, _, rfl, hl, rfl⟩, fun H2 e2 => ?_⟩
      have z := q H2 e2
      unfold wordOk at z
      rw [decide_eq_true h80, Bool.true_and] at z
      exact z
    · rw [decide_eq_false (show ¬ (l.length : Int) ≤ 80 by omega)]
      refine iteF ?_
      have z := q _ (Ex.refl _)
      unfold wordOk at z
      rw [decide_eq_false h80, Bool.false_and] at z
      exact z
end
end K9

set_option Elab.async false
set_option maxRecDepth 100000
set_option maxHeartbeats 4000000
namespace K9
open PySem PySem.Spec PyProof.Rows L2 SX Evl KL
section
variable {P : Program} {w : World} {K : PySem.W.Frag} {mg : Str → Option Value} {base : Heap} {f : Addr} {fd : FuncData} {aK aA aV aL : Addr}
abbrev s_is_name : Stmt := top 16
theorem sc_is_name : FnScope ["thing"] ["thing"] (C8.fnScope s_is_name) := C8.fnScope_by (by decide +kernel)
theorem ok_name (F : C8.Def K mg "is_name" s_is_name f fd) (b : Binds K fd ["thing"] []) (B : Blt mg) (T : Csts K mg aK aA aV aL) (C_made_of : C8.Cal P w K mg base 1 "made_of" spMade []) : C8.Cal P w K mg base 2 "is_name" spName [] :=
  C8.cal0 F b .nil sc_is_name (fun vs H Q E h => h.1) fun cdv A outer s H vs Q E hr h => by
    have nd := sc_is_name.nd
    obtain ⟨_, v, ⟨l, rfl, hl, rfl⟩, q⟩ := h
    refine ⟨_, (pss_cons (ps_if (PW.pt (pw_or (pt_not (pt_val (pe_callB call_isi (by rfl) B.isinstance_ (by decide +kernel) (pa_cons (pv 0) (pa_cons (pe_bltn (v := .ty "str") (by rfl) B.str_ (by decide +kernel) rfl) pa_nil))))) (pw_or1 (pt_not (pt_chain op_le op_le (C8.pe_gc rfl (T.g_LEAST_NAME)) (pe_callB call_len_str (by rfl) B.len_ (by decide +kernel) (pa_cons (pv 0) pa_nil)) (C8.pe_gc rfl (T.g_MOST_NAME))))))) (pss_one (ps_ret pe_bl)) pss_nil)
      (pss_one (ps_ret (pe_and (C8.pe_c C_made_of hr (by decide) rfl (pa_cons (pv 0) (pa_cons (C8.pe_gc rfl (T.g_NAME_SIGNS)) pa_nil))) (pe_and (pe_cmpR op_ne (pe_ix ix_str (pv 0) pe_int (fun _ _ => rfl)) pe_str (nomark _)) (pe_one (pe_cmpR op_ne (pe_ix ix_str (pv 0) (pe_un un_neg pe_int) (fun _ _ => rfl)) pe_str (nomark _)))))))), ?_⟩
    have no : nameOk l = false → Q (.bl false) H := fun e => by
      have z := q H (Ex.refl _)
      rwa [e] at z
    refine ⟨_, rfl, _, _, _, _, true, rfl, .ty "str", isStr _, kStr, true, rfl, iteF ?_⟩
    refine ⟨_, rfl, _, rfl, len1000 hl, _, _, rfl, rfl, _, rfl, ?_⟩
    rw [S_len]
    by_cases h2 : 2 ≤ l.length
    · rw [decide_eq_true (show (2 : Int) ≤ (l.length : Int) by omega)]
      refine iteT ⟨_, _, rfl, rfl, _, rfl, ?_⟩
      by_cases h12 : l.length ≤ 12
      · rw [decide_eq_true (show (l.length : Int) ≤ 12 by omega)]
        refine iteF ?_
        refine ⟨_, rfl, rfl, _, ⟨l, _, rfl, hl, rfl⟩, fun H2 e2 => ⟨_, rfl, ?_⟩⟩
        cases hm : l.all (mem sgName) with
        | false => exact iteF (by have z := q H2 e2; rwa [show nameOk l = false by simp [nameOk, hm]] at z)
        | true =>
          refine iteT ?_
          have hne : l ≠ [] := fun z => by rw [z] at h2; simp at h2
          obtain ⟨c, hc⟩ : ∃ c, l.head? = some c := ⟨l.head hne, List.head?_eq_some_head hne⟩
          obtain ⟨d, hd⟩ : ∃ d, l.getLast? = some d := ⟨l.getLast hne, List.getLast?_eq_some_getLast hne⟩
          refine ⟨_, rfl, _, _, _, rfl, rfl, len1000 hl, head_at hc, rfl, _, rfl, ?_⟩
          rw [vs_ch lit_dash]
          by_cases h45 : c = 45
          · rw [decide_eq_true h45]
            exact iteF (by have z := q H2 e2; rwa [show nameOk l = false by simp [nameOk, hc, h45]] at z)
          · rw [decide_eq_false h45]
            refine iteT ?_
            refine ⟨_, rfl, _, rfl, _, _, _, rfl, rfl, len1000 hl, last_at hd, rfl, ?_⟩
            rw [vs_ch lit_dash]
            have z := q H2 e2
            have e : nameOk l = !decide (d = 45) := by
              unfold nameOk
              rw [hm, hc, hd]
              simp [h2, h12, h45]
            rwa [e] at z
      · rw [decide_eq_false (show ¬ (l.length : Int) ≤ 12 by omega)]
        exact iteT (no (by simp [nameOk, h12]))
    · rw [decide_eq_false (show ¬ (2 : Int) ≤ (l.length : Int) by omega)]
      refine iteF ⟨_, rfl, iteT (no (by simp [nameOk, h2]))⟩
abbrev s_is_letter : Stmt := top 17
theorem sc_is_letter : FnScope ["thing"] ["thing"] (C8.fnScope s_is_letter) := C8.fnScope_by (by decide +kernel)
theorem ok_letter (F : C8.Def K mg "is_letter" s_is_letter f fd) (b : Binds K fd ["thing"] []) (B : Blt mg) (T : Csts K mg aK aA aV aL) (C_made_of : C8.Cal P w K mg base 1 "made_of" spMade []) : C8.Cal P w K mg base 2 "is_letter" spLetter [] :=
  C8.cal0 F b .nil sc_is_letter (fun vs H Q E h => h.1) fun cdv A outer s H vs Q E hr h => by
    have nd := sc_is_letter.nd
    obtain ⟨_, v, ⟨l, rfl, hl, rfl⟩, q⟩ := h
    refine ⟨_, (pss_one (ps_ret (pe_and (pe_callB call_isi (by rfl) B.isinstance_ (by decide +kernel) (pa_cons (pv 0) (pa_cons (pe_bltn (v := .ty "str") (by rfl) B.str_ (by decide +kernel) rfl) pa_nil))) (pe_and (pe_cmpR op_le (pe_callB call_len_str (by rfl) B.len_ (by decide +kernel) (pa_cons (pv 0) pa_nil)) pe_int (nomark _)) (pe_one (C8.pe_c C_made_of hr (by decide) rfl (pa_cons (pv 0) (pa_cons (C8.pe_gc rfl (T.g_LETTERS)) pa_nil)))))))), ?_⟩
    refine ⟨_, rfl, _, _, _, _, true, rfl, .ty "str", isStr _, kStr, true, rfl, iteT ?_⟩
    refine ⟨_, rfl, _, rfl, len1000 hl, _, _, rfl, rfl, _, rfl, ?_⟩
    rw [S_len]
    by_cases h1 : l.length ≤ 1
    · rw [decide_eq_true (show (l.length : Int) ≤ 1 by omega)]
      refine iteT ⟨_, rfl, rfl, _, ⟨l, _, rfl, hl, rfl⟩, fun H2 e2 => ?_⟩
      have z := q H2 e2
      rwa [show letterOk l = l.all (mem sgLetter) by simp [letterOk, h1]] at z
    · rw [decide_eq_false (show ¬ (l.length : Int) ≤ 1 by omega)]
      refine iteF ?_
      have z := q _ (Ex.refl _)
      rwa [show letterOk l = false by simp [letterOk, h1]] at z
abbrev s_is_dashed : Stmt := top 18
theorem sc_is_dashed : FnScope ["word"] ["word"] (C8.fnScope s_is_dashed) := C8.fnScope_by (by decide +kernel)
theorem ok_dashed (F : C8.Def K mg "is_dashed" s_is_dashed f fd) (b : Binds K fd ["word"] []) (B : Blt mg) : C8.Cal P w K mg base 1 "is_dashed" spDashed [] :=
  C8.cal0 F b .nil sc_is_dashed (fun vs H Q E h => h.1) fun cdv A outer s H vs Q E hr h => by
    have nd := sc_is_dashed.nd
    obtain ⟨_, v, ⟨l, rfl, hl, rfl⟩, q⟩ := h
    refine ⟨_, (pss_one (ps_ret (pe_and (pe_m1 PySem.F.slot_str_startswith PySem.F.type_str_startswith mt_startswith (pv 0) pe_str) (pe_one (pe_cmpR op_ne (pv 0) pe_str (nomark _)))))), ?_⟩
    have z := q _ (Ex.refl _)
    refine ⟨_, rfl, ⟨_, rfl⟩, _, _, rfl, rfl, _, rfl, ?_⟩
    rw [lit_dash, st_S, show [45].length = 1 from rfl, take1]
    unfold dashed at z
    by_cases h : l.head? = some 45
    · rw [decide_eq_true h]
      refine iteT ⟨_, rfl, rfl, ?_⟩
      rw [ss_eq]
      rw [decide_eq_true h, Bool.true_and] at z
      simpa using z
    · rw [decide_eq_false h]
      refine iteF ?_
      rwa [decide_eq_false h, Bool.false_and] at z
abbrev s_is_number : Stmt := top 19
theorem sc_is_number : FnScope ["word"] ["word"] (C8.fnScope s_is_number) := C8.fnScope_by (by decide +kernel)
theorem ok_number (F : C8.Def K mg "is_number" s_is_number f fd) (b : Binds K fd ["word"] []) (B : Blt mg) (T : Csts K mg aK aA aV aL) (C_made_of : C8.Cal P w K mg base 1 "made_of" spMade []) (C_is_dashed : C8.Cal P w K mg base 1 "is_dashed" spDashed []) : C8.Cal P w K mg base 2 "is_number" spNumber [] :=
  C8.cal0 F b .nil sc_is_number (fun vs H Q E h => h.1) fun cdv A outer s H vs Q E hr h => by
    have nd := sc_is_number.nd
    obtain ⟨_, v, ⟨l, rfl, hl, rfl⟩, q⟩ := h
    refine ⟨_, (pss_one (ps_ret (pe_and (C8.pe_c C_is_dashed hr (by decide) rfl (pa_cons (pv 0) pa_nil)) (pe_one (C8.pe_c C_made_of hr (by decide) rfl (pa_cons (pe_slice C8.sl_txt (pv 0) (po_some pe_int) po_none) (pa_cons (C8.pe_gc rfl (T.g_FIGURES)) pa_nil))))))), ?_⟩
    refine ⟨_, rfl, rfl, _, ⟨l, rfl, hl, rfl⟩, fun H1 e1 => ⟨_, rfl, ?_⟩⟩
    have z := q
    unfold number at z
    cases hd : dashed l with
    | false =>
      rw [hd, Bool.false_and] at z
      exact iteF (z H1 e1)
    | true =>
      rw [hd, Bool.true_and] at z
      refine iteT ⟨_, rfl, _, rfl, _, rfl, len1000 hl, ?_⟩
      rw [slice_from (by decide)]
      exact ⟨rfl, _, ⟨_, _, rfl, by rw [List.length_drop]; omega, rfl⟩, fun H2 e2 => z H2 (e1.trans e2)⟩
abbrev s_is_one_of : Stmt := top 26
theorem sc_is_one_of : FnScope ["thing", "words"] ["thing", "words"] (C8.fnScope s_is_one_of) := C8.fnScope_by (by decide +kernel)
theorem ok_oneOf (F : C8.Def K mg "is_one_of" s_is_one_of f fd) (b : Binds K fd ["thing", "words"] []) (B : Blt mg) : C8.Cal P w K mg base 1 "is_one_of" (spOneOf K) [] :=
  C8.cal0 F b .nil sc_is_one_of (fun vs H Q E h => h.1) fun cdv A outer s H vs Q E hr h => by
    have nd := sc_is_one_of.nd
    obtain ⟨_, v, ⟨l, a, m, rfl, ha, rfl⟩, q⟩ := h
    refine ⟨_, (pss_one (ps_ret (pe_and (pe_callB call_isi (by rfl) B.isinstance_ (by decide +kernel) (pa_cons (pv 0) (pa_cons (pe_bltn (v := .ty "str") (by rfl) B.str_ (by decide +kernel) rfl) pa_nil))) (pe_one (pe_cmpR op_in_seq (pv 0) (pv 1) (by rfl)))))), ?_⟩
    refine ⟨_, rfl, _, _, _, _, true, rfl, .ty "str", isStr _, kStr, true, rfl, iteT ?_⟩
    refine ⟨_, rfl, _, rfl, a, _, rfl, .inr ha, rfl, flat_ss m, ?_⟩
    have z := q H (Ex.refl _)
    rw [inV_ss]
    exact z
abbrev s_is_tuple_of : Stmt := top 27
theorem sc_is_tuple_of : FnScope ["thing", "count"] ["thing", "count"] (C8.fnScope s_is_tuple_of) := C8.fnScope_by (by decide +kernel)
theorem ok_tupOf (F : C8.Def K mg "is_tuple_of" s_is_tuple_of f fd) (b : Binds K fd ["thing", "count"] []) (B : Blt mg) : C8.Cal P w K mg base 1 "is_tuple_of" (spTupOf K) [] :=
  C8.cal0 F b .nil sc_is_tuple_of (fun vs H Q E h => h.1) fun cdv A outer s H vs Q E hr h => by
    have nd := sc_is_tuple_of.nd
    obtain ⟨_, v, ⟨a, xs, n, rfl, ha, rfl⟩, q⟩ := h
    refine ⟨_, (pss_one (ps_ret (pe_and (pe_callB call_isi (by rfl) B.isinstance_ (by decide +kernel) (pa_cons (pv 0) (pa_cons (pe_bltn (v := .ty "tuple") (by rfl) B.tuple_ (by decide +kernel) rfl) pa_nil))) (pe_one (pe_cmpR op_eq (pe_callB call_len_seq (by rfl) B.len_ (by decide +kernel) (pa_cons (pv 0) pa_nil)) (pv 1) (nomark _)))))), ?_⟩
    refine ⟨_, rfl, _, _, _, _, true, rfl, .ty "tuple", ty_tup ha, kTup, true, rfl, iteT ?_⟩
    refine ⟨_, rfl, a, xs, rfl, .inr ha, _, rfl, rfl, ?_⟩
    have z := q H (Ex.refl _)
    have e : decide (V.int (xs.length : Int) = V.int (n : Int)) = decide (xs.length = n) := by
      rw [Bool.eq_iff_iff]
      simp
      omega
    rw [e]
    exact z
end
end K9

set_option Elab.async false
set_option maxRecDepth 100000
set_option maxHeartbeats 4000000
namespace K9
open PySem PySem.Spec PyProof.Rows L2 SX Evl KL
section
variable {P : Program} {w : World} {K : PySem.W.Frag} {mg : Str → Option Value} {base : Heap} {f : Addr} {fd : FuncData} {aK aA aV aL : Addr}
abbrev s_need_line : Stmt := top 20
theorem sc_need_line : FnScope ["thing", "number", "word"] ["thing"] (C8.fnScope s_need_line) := C8.fnScope_by (by decide +kernel)
theorem ok_needLine (F : C8.Def K mg "need_line" s_need_line f fd) (b : Binds K fd ["thing"] []) (B : Blt mg) (T : Csts K mg aK aA aV aL) (C_is_word : C8.Cal P w K mg base 2 "is_word" spWord []) : C8.Cal P w K mg base 3 "need_line" (spNeedLine K) [] :=
  C8.cal0 F b .nil sc_need_line (fun vs H Q E h => h.1) fun cdv A outer s H vs Q E hr h => by
    have nd := sc_need_line.nd
    obtain ⟨_, v, ⟨a, ls, rfl, ha, hl, hw, rfl⟩, q⟩ := h
    refine ⟨_, (pss_cons (ps_if (PW.pt (pw_or (pt_not (pt_val (pe_callB call_isi (by rfl) B.isinstance_ (by decide +kernel) (pa_cons (pv 0) (pa_cons (pe_bltn (v := .ty "tuple") (by rfl) B.tuple_ (by decide +kernel) rfl) pa_nil))))) (pw_or1 (pt_cmpR op_gt (pe_callB call_len_seq (by rfl) B.len_ (by decide +kernel) (pa_cons (pv 0) pa_nil)) (C8.pe_gc rfl (T.g_MOST_WORDS)) (nomark _))))) (pss_one ps_never) pss_nil)
      (pss_cons (ps_for PassesOwn.never rfl (KL.pi_enumT (by rfl) B.enumerate_ (pa_cons (pv 0) pa_nil)) (pg_tup rfl (pgs_cons (pg_name (i := 1) nd rfl (by first | exact Or.inl rfl | exact Or.inr rfl)) (pgs_cons (pg_name (i := 2) nd rfl (by first | exact Or.inl rfl | exact Or.inr rfl)) pgs_nil))) (pss_one (ps_if (pt_not (pt_val (C8.pe_c C_is_word hr (by decide) rfl (pa_cons (pv 2) pa_nil)))) (pss_one ps_never) pss_nil)))
      (pss_one (ps_ret (pv 0))))), ?_⟩
    refine ⟨_, rfl, _, _, _, _, true, rfl, .ty "tuple", ty_tup ha, kTup, true, rfl, iteF ?_⟩
    refine ⟨_, rfl, a, _, rfl, .inr ha, _, _, rfl, rfl, _, rfl, ?_⟩
    rw [List.length_map, decide_eq_false (show ¬ ((80 : Int) < (ls.length : Int)) by omega)]
    refine iteF ?_
    refine ⟨_, rfl, a, _, rfl, ha, for_it (walk_enumT (xs := ls.map ss)) (fun i σ H1 => ∃ x y, σ = [some (.ref a), x, y] ∧ Ex H H1) ⟨_, _, rfl, Ex.refl _⟩ (fun i σ H1 _ ⟨_, _, _, e⟩ => ex_t e ha) ?_ ?_⟩
    · rintro i x σ H1 H2 hi ⟨x0, y0, rfl, e1⟩ ⟨Tn, x1, y1, rfl, nT, rfl, h1, h2⟩
      cases h1
      have h2 : (ls.map ss)[i]? = some y1 := h2
      rw [List.getElem?_map] at h2
      obtain ⟨l, hll, e⟩ := Option.map_eq_some_iff.mp h2
      subst e
      have hok := hw l (List.mem_of_getElem? hll)
      refine ⟨Tn, _, rfl, st_of upd_same, rfl, _, _, rfl, _, _, rfl, rfl, ?_⟩
      refine ⟨_, rfl, rfl, _, ⟨l, rfl, wordLen hok, rfl⟩, fun H3 e3 => ⟨_, rfl, ?_⟩⟩
      rw [hok]
      exact iteF ⟨_, _, rfl, (e1.trans (Ex.new nT)).trans e3⟩
    · rintro σ H1 ⟨x0, y0, rfl, e1⟩
      exact ⟨_, rfl, q H1 e1⟩
abbrev s_is_option : Stmt := top 28
theorem sc_is_option : FnScope ["thing", "name", "letter", "kind"] ["thing"] (C8.fnScope s_is_option) := C8.fnScope_by (by decide +kernel)
theorem ok_option (F : C8.Def K mg "is_option" s_is_option f fd) (b : Binds K fd ["thing"] []) (B : Blt mg) (T : Csts K mg aK aA aV aL) (C_is_tuple_of : C8.Cal P w K mg base 1 "is_tuple_of" (spTupOf K) []) (C_is_name : C8.Cal P w K mg base 2 "is_name" spName [])
    (C_is_letter : C8.Cal P w K mg base 2 "is_letter" spLetter []) (C_is_one_of : C8.Cal P w K mg base 1 "is_one_of" (spOneOf K) []) : C8.Cal P w K mg base 3 "is_option" (spOption K) [] :=
  C8.cal0 F b .nil sc_is_option (fun vs H Q E h => h.1) fun cdv A outer s H vs Q E hr h => by
    have nd := sc_is_option.nd
    obtain ⟨_, v, ⟨a, o, rfl, ha, hok, rfl⟩, q⟩ := h
    simp only [Opt.ok, Bool.and_eq_true, decide_eq_true_eq] at hok
    obtain ⟨⟨h1, h2⟩, h3⟩ := hok
    refine ⟨_, (pss_cons (ps_if (pt_not (pt_val (C8.pe_c C_is_tuple_of hr (by decide) rfl (pa_cons (pv 0) (pa_cons pe_int pa_nil))))) (pss_one (ps_ret pe_bl)) pss_nil)
      (pss_cons (ps_asg (pv 0) (pg_tup rfl (pgs_cons (pg_name (i := 1) nd rfl (by first | exact Or.inl rfl | exact Or.inr rfl)) (pgs_cons (pg_name (i := 2) nd rfl (by first | exact Or.inl rfl | exact Or.inr rfl)) (pgs_cons (pg_name (i := 3) nd rfl (by first | exact Or.inl rfl | exact Or.inr rfl)) pgs_nil)))))
      (pss_one (ps_ret (pe_and (C8.pe_c C_is_name hr (by decide) rfl (pa_cons (pv 1) pa_nil)) (pe_and (C8.pe_c C_is_letter hr (by decide) rfl (pa_cons (pv 2) pa_nil)) (pe_one (C8.pe_c C_is_one_of hr (by decide) rfl (pa_cons (pv 3) (pa_cons (C8.pe_gc rfl (T.g_KINDS)) pa_nil)))))))))), ?_⟩
    refine ⟨_, rfl, rfl, _, ⟨a, _, 3, rfl, ha, rfl⟩, fun H1 e1 => ⟨_, rfl, ?_⟩⟩
    refine iteF ?_
    refine ⟨_, rfl, a, _, rfl, ex_t e1 ha, rfl, _, _, rfl, _, _, rfl, _, _, rfl, rfl, ?_⟩
    refine ⟨_, rfl, rfl, _, ⟨_, rfl, by have := nameLen h1; omega, rfl⟩, fun H2 e2 => ⟨_, rfl, ?_⟩⟩
    rw [h1]
    refine iteT ⟨_, rfl, rfl, _, ⟨_, rfl, by have := letterLen h2; omega, rfl⟩, fun H3 e3 => ⟨_, rfl, ?_⟩⟩
    rw [h2]
    refine iteT ⟨_, rfl, rfl, _, ⟨_, aK, kinds, rfl, by rw [← kinds_lit]; exact T.t_KINDS _, rfl⟩, fun H4 e4 => ?_⟩
    rw [decide_eq_true h3]
    exact q H4 (((e1.trans e2).trans e3).trans e4)
abbrev s_is_place : Stmt := top 29
theorem sc_is_place : FnScope ["thing", "name", "arity"] ["thing"] (C8.fnScope s_is_place) := C8.fnScope_by (by decide +kernel)
theorem ok_place (F : C8.Def K mg "is_place" s_is_place f fd) (b : Binds K fd ["thing"] []) (B : Blt mg) (T : Csts K mg aK aA aV aL) (C_is_tuple_of : C8.Cal P w K mg base 1 "is_tuple_of" (spTupOf K) []) (C_is_name : C8.Cal P w K mg base 2 "is_name" spName [])
    (C_is_one_of : C8.Cal P w K mg base 1 "is_one_of" (spOneOf K) []) : C8.Cal P w K mg base 3 "is_place" (spPlace K) [] :=
  C8.cal0 F b .nil sc_is_place (fun vs H Q E h => h.1) fun cdv A outer s H vs Q E hr h => by
    have nd := sc_is_place.nd
    obtain ⟨_, v, ⟨a, o, rfl, ha, h1, h3, rfl⟩, q⟩ := h
    refine ⟨_, (pss_cons (ps_if (pt_not (pt_val (C8.pe_c C_is_tuple_of hr (by decide) rfl (pa_cons (pv 0) (pa_cons pe_int pa_nil))))) (pss_one (ps_ret pe_bl)) pss_nil)
      (pss_cons (ps_asg (pv 0) (pg_tup rfl (pgs_cons (pg_name (i := 1) nd rfl (by first | exact Or.inl rfl | exact Or.inr rfl)) (pgs_cons (pg_name (i := 2) nd rfl (by first | exact Or.inl rfl | exact Or.inr rfl)) pgs_nil))))
      (pss_one (ps_ret (pe_and (C8.pe_c C_is_name hr (by decide) rfl (pa_cons (pv 1) pa_nil)) (pe_one (C8.pe_c C_is_one_of hr (by decide) rfl (pa_cons (pv 2) (pa_cons (C8.pe_gc rfl (T.g_ARITIES)) pa_nil))))))))), ?_⟩
    refine ⟨_, rfl, rfl, _, ⟨a, _, 2, rfl, ha, rfl⟩, fun H1 e1 => ⟨_, rfl, ?_⟩⟩
    refine iteF ?_
    refine ⟨_, rfl, a, _, rfl, ex_t e1 ha, rfl, _, _, rfl, _, _, rfl, rfl, ?_⟩
    refine ⟨_, rfl, rfl, _, ⟨_, rfl, by have := nameLen h1; omega, rfl⟩, fun H2 e2 => ⟨_, rfl, ?_⟩⟩
    rw [h1]
    refine iteT ⟨_, rfl, rfl, _, ⟨_, aA, arities, rfl, by rw [← arities_lit]; exact T.t_ARITIES _, rfl⟩, fun H4 e4 => ?_⟩
    rw [decide_eq_true h3]
    exact q H4 ((e1.trans e2).trans e4)
end
end K9

set_option Elab.async false
set_option maxRecDepth 100000
set_option maxHeartbeats 4000000
namespace K9
open PySem PySem.Spec PyProof.Rows L2 SX Evl KL
section
variable {P : Program} {w : World} {K : PySem.W.Frag} {mg : Str → Option Value} {base : Heap} {f : Addr} {fd : FuncData} {aK aA aV aL : Addr}
abbrev s_need_options : Stmt := top 30
theorem sc_need_options : FnScope ["options", "taken_names", "taken_letters", "number", "option", "name", "letter", "_"] ["options"] (C8.fnScope s_need_options) := C8.fnScope_by (by decide +kernel)
theorem ok_needOpts (F : C8.Def K mg "need_options" s_need_options f fd) (b : Binds K fd ["options"] []) (B : Blt mg) (T : Csts K mg aK aA aV aL) (C_is_option : C8.Cal P w K mg base 3 "is_option" (spOption K) []) : C8.Cal P w K mg base 4 "need_options" (spNeedOpts K) [] :=
  C8.cal0 F b .nil sc_need_options (fun vs H Q E h => h.1) fun cdv A outer s H vs Q E hr h => by
    have nd := sc_need_options.nd
    have hu := hu_of hr
    obtain ⟨_, v, ⟨a, g, rfl, ⟨as, hs, hp⟩, ok, rfl⟩, q⟩ := h
    have ln : as.length = g.opts.length := hp.length
    have l24 := ok.ol
    refine ⟨_, (pss_cons (ps_if (PW.pt (pw_or (pt_not (pt_val (pe_callB call_isi (by rfl) B.isinstance_ (by decide +kernel) (pa_cons (pv 0) (pa_cons (pe_bltn (v := .ty "tuple") (by rfl) B.tuple_ (by decide +kernel) rfl) pa_nil))))) (pw_or1 (pt_cmpR op_gt (pe_callB call_len_seq (by rfl) B.len_ (by decide +kernel) (pa_cons (pv 0) pa_nil)) (C8.pe_gc rfl (T.g_MOST_OPTIONS)) (nomark _))))) (pss_one ps_never) pss_nil)
      (pss_cons (ps_set (i := 1) nd rfl (by first | exact Or.inl rfl | exact Or.inr rfl) pe_dnewK)
      (pss_cons (ps_set (i := 2) nd rfl (by first | exact Or.inl rfl | exact Or.inr rfl) pe_dnewK)
      (pss_one (ps_for PassesOwn.never rfl (KL.pi_enumT (by rfl) B.enumerate_ (pa_cons (pv 0) pa_nil)) (pg_tup rfl (pgs_cons (pg_name (i := 3) nd rfl (by first | exact Or.inl rfl | exact Or.inr rfl)) (pgs_cons (pg_name (i := 4) nd rfl (by first | exact Or.inl rfl | exact Or.inr rfl)) pgs_nil))) (pss_cons (ps_if (pt_not (pt_val (C8.pe_c C_is_option hr (by decide) rfl (pa_cons (pv 4) pa_nil)))) (pss_one ps_never) pss_nil)
      (pss_cons (ps_asg (pv 4) (pg_tup rfl (pgs_cons (pg_name (i := 5) nd rfl (by first | exact Or.inl rfl | exact Or.inr rfl)) (pgs_cons (pg_name (i := 6) nd rfl (by first | exact Or.inl rfl | exact Or.inr rfl)) (pgs_cons (pg_name (i := 7) nd rfl (by first | exact Or.inl rfl | exact Or.inr rfl)) pgs_nil)))))
      (pss_cons (ps_if (PW.pt (pw_or (pt_cmp (pc_din hu (pv 5) (pv 1))) (pw_or1 (pt_cmp (pc_din hu (pv 6) (pv 2)))))) (pss_one ps_never) pss_nil)
      (pss_cons (ps_dput hu (pv 1) (pv 5) pe_bl rfl)
      (pss_one (ps_if (pt_cmpR op_ne (pv 6) pe_str (nomark _)) (pss_one (ps_dput hu (pv 2) (pv 6) pe_bl rfl)) pss_nil))))))))))), ?_⟩
    refine ⟨_, rfl, _, _, _, _, true, rfl, .ty "tuple", ty_tup hs, kTup, true, rfl, iteF ?_⟩
    refine ⟨_, rfl, a, _, rfl, .inr hs, _, _, rfl, rfl, _, rfl, ?_⟩
    rw [List.length_map, decide_eq_false (show ¬ ((24 : Int) < (as.length : Int)) by omega)]
    refine iteF ?_
    intro D1 n1 D2 n2
    have x1 : Ex H (upd H D1 (.dK [])) := Ex.new n1
    have n2' : H D2 = none := fresh_back x1 n2
    have nd12 : D1 ≠ D2 := fun z => by rw [← z, upd_same] at n2; cases n2
    refine ⟨_, rfl, a, _, rfl, ex_t (x1.trans (Ex.new n2)) hs, for_it (walk_enumT (xs := as.map V.ref)) (fun i σ H1 => ∃ x y z u v, σ = [some (.ref a), some (.ref D1), some (.ref D2), x, y, z, u, v] ∧ Ex H H1 ∧
        H1 D1 = some (.dK (ones ((g.opts.take i).map (·.name)))) ∧ H1 D2 = some (.dK (ones (((g.opts.take i).map (·.letter)).filter (fun l => decide (l ≠ []))))))
      ⟨_, _, _, _, _, rfl, x1.trans (Ex.new n2), by rw [upd_ne nd12, upd_same]; rfl, by rw [upd_same]; rfl⟩ (fun i σ H1 _ ⟨_, _, _, _, _, _, e, _⟩ => ex_t e hs) ?_ ?_⟩
    · rintro i x σ H1 H2 hi ⟨x0, y0, z0, u0, v0, rfl, e1, d1, d2⟩ ⟨Tn, x1', y1, rfl, nT, rfl, h1, h2⟩
      cases h1
      have h2 : (as.map V.ref)[i]? = some y1 := h2
      rw [List.getElem?_map] at h2
      obtain ⟨ao, hao, e⟩ := Option.map_eq_some_iff.mp h2
      subst e
      have il : i < g.opts.length := by
        rw [List.length_map] at hi
        omega
      have ho : g.opts[i]? = some g.opts[i] := List.getElem?_eq_getElem il
      generalize g.opts[i] = o at ho
      obtain ⟨ao', hao', oa⟩ := KL.Paired.at hp ho
      rw [hao] at hao'
      cases hao'
      have mo : o ∈ g.opts := List.mem_of_getElem? ho
      have oko := ok.oo o mo
      have xT : Ex H1 (upd H1 Tn (.tup [.int (i : Nat), .ref ao])) := Ex.new nT
      have fresh1 : o.name ∉ (g.opts.take i).map (·.name) := by
        rw [List.map_take]
        exact nd_new ok.on (by rw [List.getElem?_map, ho]; rfl)
      have fresh2 : o.letter ∉ ((g.opts.take i).map (·.letter)).filter (fun l => decide (l ≠ [])) := by
        intro m
        by_cases hz : o.letter = []
        · rw [hz] at m
          simp at m
        · have sp : (g.opts.map (·.letter)).filter (fun l => decide (l ≠ [])) = ((g.opts.take i).map (·.letter)).filter (fun l => decide (l ≠ [])) ++ ((g.opts.drop i).map (·.letter)).filter (fun l => decide (l ≠ [])) := by
            rw [← List.filter_append, ← List.map_append, List.take_append_drop]
          have nz := ok.oz
          rw [sp] at nz
          have dr : o.letter ∈ ((g.opts.drop i).map (·.letter)).filter (fun l => decide (l ≠ [])) := by
            refine List.mem_filter.mpr ⟨List.mem_map.mpr ⟨o, ?_, rfl⟩, by simp [hz]⟩
            have : (g.opts.drop i)[0]? = some o := by rw [List.getElem?_drop]; simpa using ho
            exact List.mem_of_getElem? this
          exact (List.nodup_append.mp nz).2.2 _ m _ dr rfl
      -- the pair is unpacked; is_option(option)
      refine ⟨Tn, _, rfl, st_of upd_same, rfl, _, _, rfl, _, _, rfl, rfl, ?_⟩
      refine ⟨_, rfl, rfl, _, ⟨ao, o, rfl, OptAt.mono (e1.trans xT) oa, oko, rfl⟩, fun H3 e3 => ⟨_, rfl, ?_⟩⟩
      refine iteF ?_
      have e3' : Ex H H3 := (e1.trans xT).trans e3
      have d13 := e3 _ _ (xT _ _ d1)
      have d23 := e3 _ _ (xT _ _ d2)
      refine ⟨_, rfl, ao, _, rfl, ex_t e3' oa, rfl, _, _, rfl, _, _, rfl, _, _, rfl, rfl, ?_⟩
      -- if name in taken_names or letter in taken_letters
      refine ⟨_, rfl, _, rfl, D1, _, rfl, DGet.k (k := kS o.name) d13, _, rfl, ?_⟩
      rw [ones_none fresh1]
      refine iteF ⟨_, rfl, _, rfl, D2, _, rfl, DGet.k (k := kS o.letter) d23, _, rfl, ?_⟩
      rw [ones_none fresh2]
      refine iteF ?_
      have n1e : H D1 = none := n1
      have sz : ∀ l : List (List Nat), l.length ≤ 24 → (ones l).length < sizeLine := fun l h => small1000 (by rw [List.length_map]; omega)
      refine ⟨_, rfl, _, rfl, D1, _, rfl, DPut.k (k := kS o.name) d13 (sz _ (by rw [List.length_map, List.length_take]; omega)), ?_⟩
      rw [ones_put fresh1]
      have tn : (g.opts.take i).map (·.name) ++ [o.name] = (g.opts.take (i + 1)).map (·.name) := by rw [take_snoc ho, List.map_append]; rfl
      have tl : ((g.opts.take (i + 1)).map (·.letter)).filter (fun l => decide (l ≠ [])) = ((g.opts.take i).map (·.letter)).filter (fun l => decide (l ≠ [])) ++ (if o.letter = [] then [] else [o.letter]) := by
        rw [take_snoc ho, List.map_append, List.filter_append]
        by_cases hz : o.letter = []
        · simp [hz]
        · simp [hz]
      rw [tn]
      refine ⟨_, rfl, rfl, _, rfl, ?_⟩
      rw [lit_nil, ss_eq]
      by_cases hz : o.letter = []
      · rw [decide_eq_true hz]
        refine iteF ⟨_, _, _, _, _, rfl, Ex.mut e3' n1e, by rw [upd_same], ?_⟩
        rw [upd_ne nd12.symm, d23, tl, if_pos hz, List.append_nil]
      · rw [decide_eq_false hz]
        have d23' : upd H3 D1 (.dK (ones ((g.opts.take (i + 1)).map (·.name)))) D2 = some (.dK (ones (((g.opts.take i).map (·.letter)).filter (fun l => decide (l ≠ []))))) := by rw [upd_ne nd12.symm]; exact d23
        refine iteT ⟨_, rfl, _, rfl, D2, _, rfl, DPut.k (k := kS o.letter) d23' (sz _ ?_), ?_⟩
        · refine Nat.le_trans (List.length_filter_le _ _) ?_
          rw [List.length_map, List.length_take]
          omega
        rw [ones_put fresh2]
        refine ⟨_, _, _, _, _, rfl, Ex.mut (Ex.mut e3' n1e) n2', by rw [upd_ne nd12, upd_same], ?_⟩
        rw [upd_same, tl, if_neg hz]
    · rintro σ H1 ⟨x0, y0, z0, u0, v0, rfl, e1, d1, d2⟩
      exact q H1 e1
end
end K9

set_option Elab.async false
set_option maxRecDepth 100000
set_option maxHeartbeats 4000000
namespace K9
open PySem PySem.Spec PyProof.Rows L2 SX Evl KL
section
variable {P : Program} {w : World} {K : PySem.W.Frag} {mg : Str → Option Value} {base : Heap} {f : Addr} {fd : FuncData} {aK aA aV aL : Addr}
abbrev s_need_places : Stmt := top 31
theorem sc_need_places : FnScope ["places", "taken", "has_many", "number", "place", "name", "arity"] ["places"] (C8.fnScope s_need_places) := C8.fnScope_by (by decide +kernel)
theorem ok_needPls (F : C8.Def K mg "need_places" s_need_places f fd) (b : Binds K fd ["places"] []) (B : Blt mg) (T : Csts K mg aK aA aV aL) (C_is_place : C8.Cal P w K mg base 3 "is_place" (spPlace K) []) : C8.Cal P w K mg base 4 "need_places" (spNeedPls K) [] :=
  C8.cal0 F b .nil sc_need_places (fun vs H Q E h => h.1) fun cdv A outer s H vs Q E hr h => by
    have nd := sc_need_places.nd
    have hu := hu_of hr
    obtain ⟨_, v, ⟨a, g, rfl, ⟨as, hs, hp⟩, ok, rfl⟩, q⟩ := h
    have ln : as.length = g.pls.length := hp.length
    have l24 := ok.pl
    refine ⟨_, (pss_cons (ps_if (PW.pt (pw_or (pt_not (pt_val (pe_callB (id := "isinstance") call_isi (by rfl) B.isinstance_ (by decide +kernel) (pa_cons (pv 0) (pa_cons (pe_bltn (v := .ty "tuple") (by rfl) B.tuple_ (by decide +kernel) rfl) pa_nil))))) (pw_or1 (pt_cmpR op_gt (pe_callB (id := "len") call_len_seq (by rfl) B.len_ (by decide +kernel) (pa_cons (pv 0) pa_nil)) (C8.pe_gc rfl (T.g_MOST_PLACES)) (nomark _))))) (pss_one ps_never) pss_nil)
      (pss_cons (ps_set (i := 1) nd rfl (by first | exact Or.inl rfl | exact Or.inr rfl) pe_dnewK)
      (pss_cons (ps_set (i := 2) nd rfl (by first | exact Or.inl rfl | exact Or.inr rfl) pe_bl)
      (pss_one (ps_for PassesOwn.never rfl (KL.pi_enumT (by rfl) B.enumerate_ (pa_cons (pv 0) pa_nil)) (pg_tup rfl (pgs_cons (pg_name (i := 3) nd rfl (by first | exact Or.inl rfl | exact Or.inr rfl)) (pgs_cons (pg_name (i := 4) nd rfl (by first | exact Or.inl rfl | exact Or.inr rfl)) pgs_nil))) (pss_cons (ps_if (pt_not (pt_val (C8.pe_c C_is_place hr (by decide) rfl (pa_cons (pv 4) pa_nil)))) (pss_one ps_never) pss_nil)
      (pss_cons (ps_asg (pv 4) (pg_tup rfl (pgs_cons (pg_name (i := 5) nd rfl (by first | exact Or.inl rfl | exact Or.inr rfl)) (pgs_cons (pg_name (i := 6) nd rfl (by first | exact Or.inl rfl | exact Or.inr rfl)) pgs_nil))))
      (pss_cons (ps_if (PW.pt (pw_or (pt_cmp (pc_din hu (pv 5) (pv 1))) (pw_or1 (PW.pt (pw_and (pt_val (pv 2)) (pw_and1 (pt_cmpR op_eq (pv 6) pe_str (nomark _)))))))) (pss_one ps_never) pss_nil)
      (pss_cons (ps_dput hu (pv 1) (pv 5) pe_bl rfl)
      (pss_one (ps_set (i := 2) nd rfl (by first | exact Or.inl rfl | exact Or.inr rfl) (pe_or (pv 2) (pe_one (pe_cmpR op_eq (pv 6) pe_str (nomark _))))))))))))))), ?_⟩
    refine ⟨_, rfl, _, _, _, _, true, rfl, .ty "tuple", ty_tup hs, kTup, true, rfl, iteF ?_⟩
    refine ⟨_, rfl, a, _, rfl, .inr hs, _, _, rfl, rfl, _, rfl, ?_⟩
    rw [List.length_map, decide_eq_false (show ¬ ((5 : Int) < (as.length : Int)) by omega)]
    refine iteF ?_
    intro D1 n1
    have x1 : Ex H (upd H D1 (.dK [])) := Ex.new n1
    refine ⟨_, rfl, a, _, rfl, ex_t x1 hs, for_it (walk_enumT (xs := as.map V.ref)) (fun i σ H1 => ∃ x y u v, σ = [some (.ref a), some (.ref D1), some (.bl ((g.pls.take i).any (fun p => decide (p.2 = aMany)))), x, y, u, v] ∧ Ex H H1 ∧
        H1 D1 = some (.dK (ones ((g.pls.take i).map (·.1)))))
      ⟨_, _, _, _, rfl, x1, upd_same⟩ (fun i σ H1 _ ⟨_, _, _, _, _, e, _⟩ => ex_t e hs) ?_ ?_⟩
    · rintro i x σ H1 H2 hi ⟨x0, y0, u0, v0, rfl, e1, d1⟩ ⟨Tn, x1', y1, rfl, nT, rfl, h1, h2⟩
      cases h1
      have h2 : (as.map V.ref)[i]? = some y1 := h2
      rw [List.getElem?_map] at h2
      obtain ⟨ao, hao, e⟩ := Option.map_eq_some_iff.mp h2
      subst e
      have il : i < g.pls.length := by
        rw [List.length_map] at hi
        omega
      have ho : g.pls[i]? = some g.pls[i] := List.getElem?_eq_getElem il
      generalize g.pls[i] = o at ho
      obtain ⟨ao', hao', oa⟩ := KL.Paired.at hp ho
      rw [hao] at hao'
      cases hao'
      have mo : o ∈ g.pls := List.mem_of_getElem? ho
      have oko := ok.po o mo
      have xT : Ex H1 (upd H1 Tn (.tup [.int (i : Nat), .ref ao])) := Ex.new nT
      have fresh1 : o.1 ∉ (g.pls.take i).map (·.1) := by
        rw [List.map_take]
        exact nd_new ok.pn (by rw [List.getElem?_map, ho]; rfl)
      have once : (g.pls.take i).any (fun p => decide (p.2 = aMany)) = true → o.2 ≠ aMany := by
        intro h e
        have sp : g.pls.filter (fun p => decide (p.2 = aMany)) = (g.pls.take i).filter (fun p => decide (p.2 = aMany)) ++ (g.pls.drop i).filter (fun p => decide (p.2 = aMany)) := by
          rw [← List.filter_append, List.take_append_drop]
        have pm := ok.pm
        rw [sp, List.length_append] at pm
        have g1 : 0 < ((g.pls.take i).filter (fun p => decide (p.2 = aMany))).length := by
          obtain ⟨p, hp, hq⟩ := List.any_eq_true.mp h
          exact List.length_pos_of_mem (List.mem_filter.mpr ⟨hp, hq⟩)
        have g2 : 0 < ((g.pls.drop i).filter (fun p => decide (p.2 = aMany))).length := by
          have : (g.pls.drop i)[0]? = some o := by rw [List.getElem?_drop]; simpa using ho
          exact List.length_pos_of_mem (List.mem_filter.mpr ⟨List.mem_of_getElem? this, by simp [e]⟩)
        omega
      refine ⟨Tn, _, rfl, st_of upd_same, rfl, _, _, rfl, _, _, rfl, rfl, ?_⟩
      refine ⟨_, rfl, rfl, _, ⟨ao, o, rfl, PlAt.mono (e1.trans xT) oa, oko.1, oko.2, rfl⟩, fun H3 e3 => ⟨_, rfl, ?_⟩⟩
      refine iteF ?_
      have e3' : Ex H H3 := (e1.trans xT).trans e3
      have d13 := e3 _ _ (xT _ _ d1)
      refine ⟨_, rfl, ao, _, rfl, ex_t e3' oa, rfl, _, _, rfl, _, _, rfl, rfl, ?_⟩
      refine ⟨_, rfl, _, rfl, D1, _, rfl, DGet.k (k := kS o.1) d13, _, rfl, ?_⟩
      rw [ones_none fresh1]
      refine iteF ⟨_, rfl, _, rfl, ?_⟩
      have go : tSeq (sDPut (tVar 1) (tVar 5) (tC (V.bl true))) (tAsg (tOrV (tVar 2) (tOp rEq (tVar 6) (tC (V.str "many")))) (gName 2))
          { nx := fun σ H1 => ∃ x y u v, σ = [some (.ref a), some (.ref D1), some (.bl ((g.pls.take (i + 1)).any (fun p => decide (p.2 = aMany)))), x, y, u, v] ∧ Ex H H1 ∧ H1 D1 = some (.dK (ones ((g.pls.take (i + 1)).map (·.1)))), rt := Q,
            bk := fun σ H => True, ct := fun σ H => True }
          [some (.ref a), some (.ref D1), some (.bl ((g.pls.take i).any (fun p => decide (p.2 = aMany)))), some (.int (i : Nat)), some (.ref ao), some (ss o.1), some (ss o.2)] H3 := by
        refine ⟨_, rfl, _, rfl, D1, _, rfl, DPut.k (k := kS o.1) d13 (small1000 ?_), ?_⟩
        · rw [List.length_map, List.length_map, List.length_take]
          omega
        rw [ones_put fresh1]
        have tn : (g.pls.take i).map (·.1) ++ [o.1] = (g.pls.take (i + 1)).map (·.1) := by rw [take_snoc ho, List.map_append]; rfl
        rw [tn]
        have ta : (g.pls.take (i + 1)).any (fun p => decide (p.2 = aMany)) = ((g.pls.take i).any (fun p => decide (p.2 = aMany)) || decide (o.2 = aMany)) := by rw [take_snoc ho, List.any_append]; simp
        refine ⟨_, rfl, _, rfl, ?_⟩
        cases hh : (g.pls.take i).any (fun p => decide (p.2 = aMany)) with
        | true => exact iteT ⟨_, _, _, _, by rw [ta, hh]; rfl, Ex.mut e3' n1, upd_same⟩
        | false =>
          refine iteF ⟨_, rfl, rfl, ?_⟩
          rw [lit_many, ss_eq]
          exact ⟨_, _, _, _, by rw [ta, hh, Bool.false_or]; rfl, Ex.mut e3' n1, upd_same⟩
      cases hh : (g.pls.take i).any (fun p => decide (p.2 = aMany)) with
      | false =>
        refine iteF (iteF ?_)
        rw [hh] at go
        exact go
      | true =>
        refine iteT ⟨_, rfl, rfl, _, rfl, ?_⟩
        rw [lit_many, ss_eq, decide_eq_false (once hh)]
        refine iteF ?_
        rw [hh] at go
        exact go
    · rintro σ H1 ⟨x0, y0, u0, v0, rfl, e1, d1⟩
      exact q H1 e1
abbrev s_need_modes : Stmt := top 32
theorem sc_need_modes : FnScope ["modes", "mode"] ["modes"] (C8.fnScope s_need_modes) := C8.fnScope_by (by decide +kernel)
theorem ok_needModes (F : C8.Def K mg "need_modes" s_need_modes f fd) (b : Binds K fd ["modes"] []) (B : Blt mg) (C_is_tuple_of : C8.Cal P w K mg base 1 "is_tuple_of" (spTupOf K) []) : C8.Cal P w K mg base 2 "need_modes" (spNeedModes K) [] :=
  C8.cal0 F b .nil sc_need_modes (fun vs H Q E h => h.1) fun cdv A outer s H vs Q E hr h => by
    have nd := sc_need_modes.nd
    obtain ⟨_, v, ⟨a, x, y, z, rfl, ha, rfl⟩, q⟩ := h
    refine ⟨_, (pss_one (ps_if (PW.pt (pw_or (pt_not (pt_val (C8.pe_c C_is_tuple_of hr (by decide) rfl (pa_cons (pv 0) (pa_cons pe_int pa_nil))))) (pw_or1 (pt_not (pt_val (pe_callB (id := "all") (cr_all rfl) (by rfl) B.all_ (by decide +kernel) (pa_cons (pe_lc (own := [("mode", 1)]) rfl nd (pi_tup (pv 0)) (blkOk_by (N := ["modes", "mode"]) (sc := C8.fnScope s_need_modes) (by decide +kernel)) (fun _ _ _ _ _ => (pg_name (i := 1) nd rfl (by first | exact Or.inl rfl | exact Or.inr rfl))) (fun _ _ _ _ _ => pts_nil) (fun _ _ _ _ _ => (pe_callB (id := "isinstance") (r := rIsi K) call_isi (by rfl) B.isinstance_ (by decide +kernel) (pa_cons (pv 1) (pa_cons (pe_bltn (v := .ty "bool") (by rfl) B.bool_ (by decide +kernel) rfl) pa_nil))))) pa_nil))))))) (pss_one ps_never) pss_nil)), ?_⟩
    refine ⟨_, rfl, rfl, _, ⟨a, _, 3, rfl, ha, rfl⟩, fun H1 e1 => ⟨_, rfl, ?_⟩⟩
    refine iteF ?_
    refine ⟨_, rfl, a, rfl, ⟨_, ex_t e1 ha⟩, fun D hD => ?_⟩
    refine lc_ys (L2.walk_tup (K := K) (a := a) (xs := [.bl x, .bl y, .bl z])) [x, y, z] rfl (by show 3 ≤ 100000; decide) (fun _ => true) (fun _ => .bl true) hD (fun H2 e2 => ex_t (e1.trans e2) ha) ?_ ?_
    · rintro i c x' H2 H3 hi e2 ⟨rfl, hx⟩ Z N hz hn
      have hx' : ([x, y, z].map V.bl)[i]? = some x' := hx
      rw [List.getElem?_map, hi] at hx'
      obtain rfl : V.bl c = x' := Option.some.inj hx'
      refine ⟨rfl, ?_⟩
      refine iteT (B := N H3) ?_
      exact ⟨_, rfl, _, _, _, _, true, rfl, .ty "bool", .base (.bl c), kBool, hz H3 (Ex.refl _) rfl⟩
    · intro H2 e2 h2
      refine ⟨D, [true, true, true], rfl, sq_of h2, _, rfl, iteF ?_⟩
      exact q H2 (e1.trans e2)
abbrev s_need_grammar : Stmt := top 33
theorem sc_need_grammar : FnScope ["thing", "options", "places", "modes"] ["thing"] (C8.fnScope s_need_grammar) := C8.fnScope_by (by decide +kernel)
theorem ok_needGr (F : C8.Def K mg "need_grammar" s_need_grammar f fd) (b : Binds K fd ["thing"] []) (B : Blt mg) (C_is_tuple_of : C8.Cal P w K mg base 1 "is_tuple_of" (spTupOf K) []) (C_need_options : C8.Cal P w K mg base 4 "need_options" (spNeedOpts K) [])
    (C_need_places : C8.Cal P w K mg base 4 "need_places" (spNeedPls K) []) (C_need_modes : C8.Cal P w K mg base 2 "need_modes" (spNeedModes K) []) : C8.Cal P w K mg base 5 "need_grammar" (spNeedGr K) [] :=
  C8.cal0 F b .nil sc_need_grammar (fun vs H Q E h => h.1) fun cdv A outer s H vs Q E hr h => by
    have nd := sc_need_grammar.nd
    obtain ⟨_, v, ⟨a, g, rfl, ha, ok, rfl⟩, q⟩ := h
    obtain ⟨ao, ap, am, h1, h2, h3, h4⟩ := ha.ex
    refine ⟨_, (pss_cons (ps_if (pt_not (pt_val (C8.pe_c C_is_tuple_of hr (by decide) rfl (pa_cons (pv 0) (pa_cons pe_int pa_nil))))) (pss_one ps_never) pss_nil)
      (pss_cons (ps_asg (pv 0) (pg_tup rfl (pgs_cons (pg_name (i := 1) nd rfl (by first | exact Or.inl rfl | exact Or.inr rfl)) (pgs_cons (pg_name (i := 2) nd rfl (by first | exact Or.inl rfl | exact Or.inr rfl)) (pgs_cons (pg_name (i := 3) nd rfl (by first | exact Or.inl rfl | exact Or.inr rfl)) pgs_nil)))))
      (pss_cons (ps_expr (C8.pe_c C_need_options hr (by decide) rfl (pa_cons (pv 1) pa_nil)))
      (pss_cons (ps_expr (C8.pe_c C_need_places hr (by decide) rfl (pa_cons (pv 2) pa_nil)))
      (pss_cons (ps_expr (C8.pe_c C_need_modes hr (by decide) rfl (pa_cons (pv 3) pa_nil)))
      (pss_one (ps_ret (pv 0)))))))), ?_⟩
    refine ⟨_, rfl, rfl, _, ⟨a, _, 3, rfl, h1, rfl⟩, fun H1 e1 => ⟨_, rfl, ?_⟩⟩
    refine iteF ?_
    refine ⟨_, rfl, a, _, rfl, ex_t e1 h1, rfl, _, _, rfl, _, _, rfl, _, _, rfl, rfl, ?_⟩
    refine ⟨_, rfl, rfl, _, ⟨ao, g, rfl, h2.mono e1, ok, rfl⟩, fun H2 e2 => ?_⟩
    refine ⟨_, rfl, rfl, _, ⟨ap, g, rfl, h3.mono (e1.trans e2), ok, rfl⟩, fun H3 e3 => ?_⟩
    refine ⟨_, rfl, rfl, _, ⟨am, _, _, _, rfl, ex_t ((e1.trans e2).trans e3) h4, rfl⟩, fun H4 e4 => ?_⟩
    exact ⟨_, rfl, q H4 (((e1.trans e2).trans e3).trans e4)⟩
end
end K9

set_option Elab.async false
set_option maxRecDepth 100000
set_option maxHeartbeats 4000000
namespace K9
open PySem PySem.Spec PyProof.Rows L2 SX Evl KL
section
variable {P : Program} {w : World} {K : PySem.W.Frag} {mg : Str → Option Value} {base : Heap} {f : Addr} {fd : FuncData} {aK aA aV aL : Addr}
abbrev s_only_beginnings : Stmt := top 34
theorem sc_only_beginnings : FnScope ["names", "owners", "name", "end", "start"] ["names"] (C8.fnScope s_only_beginnings) := C8.fnScope_by (by decide +kernel)
theorem ok_only (F : C8.Def K mg "only_beginnings" s_only_beginnings f fd) (b : Binds K fd ["names"] []) (B : Blt mg) : C8.Cal P w K mg base 1 "only_beginnings" (spOnly K) [] :=
  C8.cal0 F b .nil sc_only_beginnings (fun vs H Q E h => by obtain ⟨a, ns, rfl, _⟩ := h; rfl) fun cdv A outer s H vs Q E hr h => by
    have nd := sc_only_beginnings.nd
    have hu := hu_of hr
    obtain ⟨a, ns, rfl, hs, l24, l12, q⟩ := h
    refine ⟨_, (pss_cons (ps_set (i := 1) nd rfl (by first | exact Or.inl rfl | exact Or.inr rfl) pe_dnewK)
      (pss_cons (ps_for PassesOwn.never rfl (pi_list (pv 0)) (pg_name (i := 2) nd rfl (by first | exact Or.inl rfl | exact Or.inr rfl)) (pss_one (ps_for PassesOwn.never rfl (pi_range2 (by rfl) B.range_ (pa_cons pe_int (pa_cons (pe_op op_add (pe_callB (id := "len") call_len_str (by rfl) B.len_ (by decide +kernel) (pa_cons (pv 2) pa_nil)) pe_int) pa_nil))) (pg_name (i := 3) nd rfl (by first | exact Or.inl rfl | exact Or.inr rfl)) (pss_one (ps_expr (pe_bm PySem.F.plainAttrs_list PySem.F.slot_list_append PySem.F.type_list_append mt_append (pe_dsetd (pv 1) (pe_slice C8.sl_txt (pv 2) po_none (po_some (pv 3))) (pe_lst pa_nil) ⟨rfl, rfl, rfl, rfl⟩) (pa_cons (pv 2) pa_nil)))))))
      (pss_one (ps_ret (pe_lock (pe_dc (own := [("start", 4)]) rfl nd (pi_keys (pv 1)) (blkOk_by (N := ["names", "owners", "name", "end", "start"]) (sc := C8.fnScope s_only_beginnings) (by decide +kernel)) (fun _ _ _ _ _ => (pg_name (i := 4) nd rfl (by first | exact Or.inl rfl | exact Or.inr rfl))) (fun _ _ _ _ _ => (pts_one (pt_cmpR op_eq (pe_callB (id := "len") (r := fun xs H Q => ∃ p ys, xs = [V.ref p] ∧ (SqL K H p ys ∨ SqT K H p ys) ∧ Q (.int ys.length) H) call_len_seq (by rfl) B.len_ (by decide +kernel) (pa_cons (pe_dget hu (pv 1) (pv 4) (fun _ _ => rfl)) pa_nil)) pe_int (nomark _)))) (fun _ _ _ _ _ => (pv 4)) (fun _ _ _ _ _ => (pe_ix (r := rIxL K) ix_list (pe_dget hu (pv 1) (pv 4) (fun _ _ => rfl)) pe_int (fun _ _ => rfl))))))))), ?_⟩
    intro D1 n1
    refine ⟨_, rfl, a, rfl, ⟨_, ex_l (Ex.new n1) hs⟩, for_it (L2.walk_list (K := K) (a := a) (xs := ns.map ss)) (fun i σ H1 => ∃ x y ts ps, σ = [some (.ref a), some (.ref D1), x, y, none] ∧ Rep H H1 D1 ts ps (fun t => ((ns.take i).filter (begins t)).map ss) ∧ ts.length ≤ 12 * i)
      ⟨_, _, [], [], rfl, Rep.start n1, by simp⟩ (fun i σ H1 _ ⟨_, _, _, _, _, R, _⟩ => ex_l R.ex hs) ?_ ?_⟩
    · rintro i x σ H1 H2 hi ⟨x0, y0, ts, ps, rfl, R, lt⟩ ⟨rfl, hx⟩
      rw [List.getElem?_map] at hx
      obtain ⟨nm, hnm, e⟩ := Option.map_eq_some_iff.mp hx
      subst e
      have il : i < ns.length := by rw [List.length_map] at hi; exact hi
      have lm := l12 nm (List.mem_of_getElem? hnm)
      have tk := take_snoc hnm
      refine ⟨_, rfl, _, rfl, len1000 (by omega), _, _, rfl, rfl, _, _, rfl, ?_⟩
      have eN : (((S nm).length : Int) + 1 - 1).toNat = nm.length := by rw [S_len]; omega
      refine ⟨by rw [S_len]; omega, ?_⟩
      rw [eN]
      refine for_it (walk_range (lo := 1) (n := nm.length)) (fun e σ H3 => ∃ y ts ps, σ = [some (.ref a), some (.ref D1), some (ss nm), y, none] ∧ Rep H H3 D1 ts ps (fun t => (owned (ns.take i) nm e t).map ss) ∧ ts.length ≤ 12 * i + e)
        ⟨_, ts, ps, rfl, by rw [owned_zero]; exact R, by omega⟩ (fun _ _ _ _ _ => trivial) ?_ ?_
      · rintro e x σ H3 H4 he ⟨y0, ts, ps, rfl, R, lt⟩ ⟨rfl, rfl⟩
        have eT : ((1 : Int) + (e : Nat)).toNat = e + 1 := by omega
        refine ⟨_, rfl, D1, rfl, .inl ⟨_, .inl R.dk⟩, _, rfl, _, rfl, _, rfl, _, rfl, len1000 (by omega), ?_⟩
        rw [slice_to (by omega), eT]
        refine ⟨Nat.zero_le _, fun z hz => ?_⟩
        have e1 : Ex H4 (upd H4 z (.lst [])) := Ex.new hz
        have kl : ((ts.zip ps).map fun tp => (kS tp.1, V.ref tp.2)).length < sizeLine := by
          refine small1000 ?_
          rw [List.length_map, List.length_zip]
          omega
        have l1 : ∀ l : List (List Nat), (l.filter (begins (nm.take (e + 1)))).length ≤ l.length := fun l => List.length_filter_le _ _
        have sz : (owned (ns.take i) nm e (nm.take (e + 1))).length < sizeLine := by
          refine small1000 ?_
          unfold owned
          rw [List.length_append]
          have h1 := l1 (ns.take i)
          rw [List.length_take] at h1
          split
          · simp; omega
          · simp; omega
        refine ⟨_, kS (nm.take (e + 1)), e1 _ _ R.dk, rfl, kl, fun v hv => ?_, fun hn => ?_⟩
        · have ht : nm.take (e + 1) ∈ ts := by
            by_cases m : nm.take (e + 1) ∈ ts
            · exact m
            · rw [zip_none m] at hv
              cases hv
          obtain ⟨p, hp, hH, hf, st⟩ := R.old (x := ss nm) ht
          rw [hp] at hv
          cases hv
          refine ⟨.inl ⟨rfl, _, sq_of (e1 _ _ hH)⟩, _, rfl, p, _, _, rfl, rfl, e1 _ _ hH, by rw [List.length_map]; exact sz, ?_⟩
          refine ⟨_, ts, ps, rfl, ?_, by omega⟩
          have r := st _ e1
          rw [more_map, owned_step he] at r
          exact r
        · have ht : nm.take (e + 1) ∉ ts := fun m => by
            obtain ⟨p, hp, _⟩ := R.old (x := ss nm) m
            rw [hp] at hn
            cases hn
          obtain ⟨_, nzD, r⟩ := R.new (x := ss nm) ht hz
          rw [more_map, owned_step he] at r
          refine ⟨.inl ⟨rfl, _, sq_of (by rw [upd_ne nzD, upd_same])⟩, _, rfl, z, [], _, rfl, rfl, by rw [upd_ne nzD, upd_same], small1000 (by decide), ?_⟩
          exact ⟨_, _, _, rfl, r, by rw [List.length_append]; simp; omega⟩
      · rintro σ H3 ⟨y0, ts, ps, rfl, R, lt⟩
        refine ⟨_, _, ts, ps, rfl, ?_, by omega⟩
        rw [owned_all, ← tk] at R
        exact R
    · rintro σ H1 ⟨x0, y0, ts, ps, rfl, R, lt⟩
      have tkAll : ns.take ((ns.map ss).length) = ns := by rw [List.length_map, List.take_length]
      rw [tkAll] at R
      rw [List.length_map] at lt
      refine ⟨D1, _, R.dk, trivial, fun od => ?_⟩
      refine ⟨_, rfl, D1, od, rfl, .inl ⟨_, upd_same, fun D hD => ?_⟩⟩
      have nDD : D ≠ D1 := fun z => by rw [z, upd_same] at hD; cases hD
      have lz : ((ts.zip ps).map fun tp => (kS tp.1, V.ref tp.2)).length = ts.length := by rw [List.length_map, List.length_zip, R.len]; omega
      refine dc_ys walk_keys ts lz (by omega) (fun t => decide ((ns.filter (begins t)).length = 1)) kS (fun t => ss ((ns.filter (begins t)).headD [])) hD (fun H2 e2 => e2 _ _ upd_same) ?_ ?_
      · rintro i t x H2 H3 hi e2 ⟨rfl, k, v, hk, rfl⟩ Z N hz hn
        have il : i < ts.length := (List.getElem?_eq_some_iff.mp hi).1
        obtain ⟨p, hp, hv⟩ := zip_at R.len R.nd hi
        have ek : k = kS t := by
          rw [List.getElem?_map] at hk
          obtain ⟨tp, h1, h2⟩ := Option.map_eq_some_iff.mp hk
          have h3 := List.getElem?_zip_eq_some.mp h1
          have h4 : tp.1 = t := by
            have := h3.1
            rw [hi] at this
            exact Eq.symm (Option.some.inj this)
          have h5 : kS tp.1 = k := congrArg Prod.fst h2
          rw [← h5, h4]
        subst ek
        have hH := R.at_ i t p hi hp
        have npD : p ≠ D1 := fun z => by rw [z, R.dk] at hH; cases hH
        have hH3 : H3 p = some (.lst ((ns.filter (begins t)).map ss)) := e2 _ _ (by rw [upd_ne npD]; exact hH)
        have dg : DGet H3 D1 (kV (kS t)) (some (.ref p)) := .inl ⟨_, kS t, .inr ⟨od, e2 _ _ upd_same⟩, rfl, hv.symm⟩
        refine ⟨rfl, ?_⟩
        refine ⟨_, rfl, _, rfl, D1, _, rfl, dg, p, _, rfl, .inl (sq_of hH3), rfl, _, rfl, ?_⟩
        rw [List.length_map, dec_int1]
        by_cases h1 : (ns.filter (begins t)).length = 1
        · rw [decide_eq_true h1]
          have zz := hz H3 (Ex.refl _) (decide_eq_true h1)
          obtain ⟨y, ey⟩ := List.length_eq_one_iff.mp h1
          rw [ey] at zz hH3
          refine iteT ⟨_, rfl, _, rfl, _, rfl, D1, _, rfl, dg, p, _, 0, _, rfl, rfl, sq_of hH3, atI_nat (j := 0) rfl, zz⟩
        · rw [decide_eq_false h1]
          exact iteF (hn H3 (Ex.refl _) (decide_eq_false h1))
      · intro H2 e2 h2
        refine ⟨e2 _ _ upd_same, ?_⟩
        refine q D _ _ (Ex.mut ((Ex.mut R.ex R.nD).trans e2) R.nD) ?_ (by rw [upd_ne nDD]; exact h2) ?_ (only_val R.nd fun t m => List.map_eq_nil_iff.mp (R.nc t m))
        · have z1 := fresh_back (Ex.mut R.ex R.nD) hD
          exact z1
        · have h1 := fold_len (fun t => ss ((ns.filter (begins t)).headD [])) (ts.filter fun t => decide ((ns.filter (begins t)).length = 1)) []
          have h3 : (ts.filter fun t => decide ((ns.filter (begins t)).length = 1)).length ≤ ts.length := List.length_filter_le _ _
          have h4 : ([] : List (Key × V)).length = 0 := rfl
          omega
end
end K9

set_option Elab.async false
set_option maxRecDepth 100000
set_option maxHeartbeats 4000000
namespace K9
open PySem PySem.Spec PyProof.Rows L2 SX Evl KL
section
variable {P : Program} {w : World} {K : PySem.W.Frag} {mg : Str → Option Value} {base : Heap} {f : Addr} {fd : FuncData} {aK aA aV aL : Addr}
abbrev s_told_names : Stmt := top 35
theorem sc_told_names : FnScope ["grammar", "options", "_", "modes", "names", "told", "name", "option"] ["grammar"] (C8.fnScope s_told_names) := C8.fnScope_by (by decide +kernel)
theorem ok_told (F : C8.Def K mg "told_names" s_told_names f fd) (b : Binds K fd ["grammar"] []) (B : Blt mg) (C_only_beginnings : C8.Cal P w K mg base 1 "only_beginnings" (spOnly K) []) : C8.Cal P w K mg base 2 "told_names" (spTold K) [] :=
  C8.cal0 F b .nil sc_told_names (fun vs H Q E h => by obtain ⟨a, g, rfl, _⟩ := h; rfl) fun cdv A outer s H vs Q E hr h => by
    have nd := sc_told_names.nd
    have hu := hu_of hr
    obtain ⟨a, g, rfl, ha, ok, q⟩ := h
    obtain ⟨ao, ap, am, h1, ⟨as, hs, hp⟩, h3, h4⟩ := ha.ex
    have ln : as.length = g.opts.length := hp.length
    have l24 := ok.ol
    refine ⟨_, (pss_cons (ps_asg (pv 0) (pg_tup rfl (pgs_cons (pg_name (i := 1) nd rfl (by first | exact Or.inl rfl | exact Or.inr rfl)) (pgs_cons (pg_name (i := 2) nd rfl (by first | exact Or.inl rfl | exact Or.inr rfl)) (pgs_cons (pg_name (i := 3) nd rfl (by first | exact Or.inl rfl | exact Or.inr rfl)) pgs_nil)))))
      (pss_cons (ps_setLc (i := 4) (own := [("option", 7)]) rfl nd rfl rfl (sw_true rfl rfl rfl (by decide +kernel)) (pi_tup (pv 1)) (blkOk_by (N := ["grammar", "options", "_", "modes", "names", "told", "name", "option"]) (sc := C8.fnScope s_told_names) (by decide +kernel)) (fun _ _ _ _ _ => (pg_name (i := 7) nd rfl (by first | exact Or.inl rfl | exact Or.inr rfl))) (fun _ _ _ _ _ => pts_nil) (fun _ _ _ _ _ => (pe_ix (r := rIxT K) ix_tup (pv 7) pe_int (fun _ _ => rfl))))
      (C8.pss_cut (ps_set (i := 5) nd rfl (by first | exact Or.inl rfl | exact Or.inr rfl) (pe_ifExp (pt_val (pe_ix ix_tup (pv 3) pe_int (fun _ _ => rfl))) (C8.pe_c C_only_beginnings hr (by decide) rfl (pa_cons (pv 4) pa_nil)) pe_dnewK))
      (pss_cons (ps_for PassesOwn.never rfl (pi_list (pv 4)) (pg_name (i := 6) nd rfl (by first | exact Or.inl rfl | exact Or.inr rfl)) (pss_one (ps_dput hu (pv 5) (pv 6) (pv 6) rfl)))
      (pss_one (ps_ret (pv 5))))))), ?_⟩
    refine ⟨_, rfl, a, _, rfl, h1, rfl, _, _, rfl, _, _, rfl, _, _, rfl, rfl, ?_⟩
    -- names
    refine ⟨_, rfl, ao, rfl, ⟨_, hs⟩, fun L hL => ?_⟩
    refine lc_ys (L2.walk_tup (K := K) (a := ao) (xs := as.map V.ref)) g.opts (by rw [List.length_map, ln]) (by rw [List.length_map]; omega) (fun _ => true) (fun o => ss o.name) hL (fun H2 e2 => ex_t e2 hs) ?_ ?_
    · rintro i o x H2 H3 hi e2 ⟨rfl, hx⟩ Z N hz hn
      obtain ⟨a1, rfl, oa⟩ := OptsAt.get hp hi hx
      refine ⟨rfl, ?_⟩
      refine iteT (B := N H3) ?_
      exact ⟨_, rfl, a1, _, 0, _, rfl, rfl, ex_t e2 oa, atI_nat (j := 0) rfl, hz H3 (Ex.refl _) rfl⟩
    intro H2 e2 hL2
    rw [flt_all] at hL2
    have hL3 : H2 L = some (.lst (g.names.map ss)) := by rw [hL2]; unfold Gr.names; rw [List.map_map]; rfl
    have nl : g.names.length ≤ 24 := by unfold Gr.names; rw [List.length_map]; exact l24
    have n12 : ∀ n ∈ g.names, n.length ≤ 12 := fun n hn => by
      obtain ⟨o, ho, rfl⟩ := List.mem_map.mp hn
      have := ok.oo o ho
      simp only [Opt.ok, Bool.and_eq_true] at this
      exact nameLen this.1.1
    -- told = only_beginnings(names) if modes[0] else {}
    refine ⟨fun σ H3 => ∃ D kvs, σ = [some (.ref a), some (.ref ao), some (.ref ap), some (.ref am), some (.ref L), some (.ref D), none, none] ∧ Ex H2 H3 ∧ H2 D = none ∧ H3 D = some (.dK kvs) ∧ kvs.length ≤ 400 ∧ (∀ t, valV kvs (kS t) = (if g.short then onlyOne g.names t else none).map ss), ?_, ?_⟩
    · refine ⟨_, rfl, am, _, 0, _, rfl, rfl, ex_t e2 h4, atI_nat (j := 0) rfl, _, rfl, ?_⟩
      cases hsh : g.short with
      | true =>
        refine iteT ⟨_, rfl, L, g.names, rfl, sq_of hL3, nl, n12, fun D H3 kvs e3 nD hD l4 hv => ?_⟩
        exact ⟨D, kvs, rfl, e3, nD, hD, l4, fun t => by rw [hv t]; rfl⟩
      | false =>
        refine iteF fun D nD => ⟨D, [], rfl, Ex.new nD, nD, upd_same, by decide, fun t => rfl⟩
    · rintro σ H3 ⟨D, kvs, rfl, e3, nD, hD, l4, hv⟩
      have hL4 := e3 _ _ hL3
      have nLD : L ≠ D := fun z => by rw [z, nD] at hL3; cases hL3
      refine ⟨_, rfl, L, rfl, ⟨_, sq_of hL4⟩, for_it (L2.walk_list (K := K) (a := L) (xs := g.names.map ss)) (fun i σ H4 => ∃ x kvs', σ = [some (.ref a), some (.ref ao), some (.ref ap), some (.ref am), some (.ref L), some (.ref D), x, none] ∧ Ex H2 H4 ∧
          H4 D = some (.dK kvs') ∧ kvs'.length ≤ 400 + i ∧ (∀ t, valV kvs' (kS t) = (if t ∈ g.names.take i then some t else if g.short then onlyOne g.names t else none).map ss))
        ⟨_, kvs, rfl, e3, hD, by omega, fun t => by rw [hv t]; simp⟩ (fun i σ H4 _ ⟨_, _, _, e, _⟩ => sq_of (e _ _ hL3)) ?_ ?_⟩
      · rintro i x σ H4 H5 hi ⟨x0, kvs', rfl, e4, hD4, l5, hv4⟩ ⟨rfl, hx⟩
        rw [List.getElem?_map] at hx
        obtain ⟨nm, hnm, e⟩ := Option.map_eq_some_iff.mp hx
        subst e
        rw [List.length_map] at hi
        refine ⟨_, rfl, _, rfl, _, rfl, D, _, rfl, DPut.k (k := kS nm) hD4 (small1000 (by omega)), ?_⟩
        refine ⟨_, _, rfl, Ex.mut e4 nD, upd_same, ?_, fun t => ?_⟩
        · have : (putK kvs' (kS nm) (ss nm)).length ≤ kvs'.length + 1 := by
            unfold putK
            split
            · rw [List.length_map]; omega
            · simp [List.length_append]
          omega
        · rw [valV_put, hv4 t, take_snoc hnm]
          by_cases e : t = nm
          · subst e
            rw [if_pos rfl, if_pos (by simp)]
            rfl
          · rw [if_neg fun z => e (kS_inj z)]
            by_cases m : t ∈ g.names.take i
            · rw [if_pos m, if_pos (List.mem_append_left _ m)]
            · rw [if_neg m, if_neg fun z => (List.mem_append.mp z).elim m fun z => e (List.mem_singleton.mp z)]
      · rintro σ H4 ⟨x0, kvs', rfl, e4, hD4, l5, hv4⟩
        rw [List.length_map] at l5
        refine ⟨_, rfl, q D H4 kvs' (e2.trans e4) (fresh_back e2 nD) hD4 (by omega) fun t => ?_⟩
        rw [hv4 t, List.length_map, List.take_length]
        rfl
abbrev s_reads_numbers : Stmt := top 36
theorem sc_reads_numbers : FnScope ["grammar", "options", "_", "modes", "letters", "option", "letter"] ["grammar"] (C8.fnScope s_reads_numbers) := C8.fnScope_by (by decide +kernel)
theorem ok_readsNum (F : C8.Def K mg "reads_numbers" s_reads_numbers f fd) (b : Binds K fd ["grammar"] []) (B : Blt mg) (T : Csts K mg aK aA aV aL) : C8.Cal P w K mg base 1 "reads_numbers" (spReadsNum K) [] :=
  C8.cal0 F b .nil sc_reads_numbers (fun vs H Q E h => h.1) fun cdv A outer s H vs Q E hr h => by
    have nd := sc_reads_numbers.nd
    have hu := hu_of hr
    obtain ⟨_, v, ⟨a, g, rfl, ha, ok, rfl⟩, q⟩ := h
    obtain ⟨ao, ap, am, h1, ⟨as, hs, hp⟩, h3, h4⟩ := ha.ex
    have ln : as.length = g.opts.length := hp.length
    have l24 := ok.ol
    refine ⟨_, (pss_cons (ps_asg (pv 0) (pg_tup rfl (pgs_cons (pg_name (i := 1) nd rfl (by first | exact Or.inl rfl | exact Or.inr rfl)) (pgs_cons (pg_name (i := 2) nd rfl (by first | exact Or.inl rfl | exact Or.inr rfl)) (pgs_cons (pg_name (i := 3) nd rfl (by first | exact Or.inl rfl | exact Or.inr rfl)) pgs_nil)))))
      (pss_cons (ps_setLc (i := 4) (own := [("option", 5)]) rfl nd rfl rfl (sw_true rfl rfl rfl (by decide +kernel)) (pi_tup (pv 1)) (blkOk_by (N := ["grammar", "options", "_", "modes", "letters", "option", "letter"]) (sc := C8.fnScope s_reads_numbers) (by decide +kernel)) (fun _ _ _ _ _ => (pg_name (i := 5) nd rfl (by first | exact Or.inl rfl | exact Or.inr rfl))) (fun _ _ _ _ _ => (pts_one (pt_cmpR op_ne (pe_ix (r := rIxT K) ix_tup (pv 5) pe_int (fun _ _ => rfl)) pe_str (nomark _)))) (fun _ _ _ _ _ => (pe_ix (r := rIxT K) ix_tup (pv 5) pe_int (fun _ _ => rfl))))
      (pss_one (ps_ret (pe_and (pe_ix ix_tup (pv 3) pe_int (fun _ _ => rfl)) (pe_one (pe_not (pe_callB (id := "any") (cr_any rfl) (by rfl) B.any_ (by decide +kernel) (pa_cons (pe_lc (own := [("letter", 6)]) rfl nd (pi_list (pv 4)) (blkOk_by (N := ["grammar", "options", "_", "modes", "letters", "option", "letter"]) (sc := C8.fnScope s_reads_numbers) (by decide +kernel)) (fun _ _ _ _ _ => (pg_name (i := 6) nd rfl (by first | exact Or.inl rfl | exact Or.inr rfl))) (fun _ _ _ _ _ => pts_nil) (fun _ _ _ _ _ => (pe_cmpR op_in_sign (pv 6) (C8.pe_gc rfl (T.g_FIGURES)) (by rfl)))) pa_nil))))))))), ?_⟩
    refine ⟨_, rfl, a, _, rfl, h1, rfl, _, _, rfl, _, _, rfl, _, _, rfl, rfl, ?_⟩
    refine ⟨_, rfl, ao, rfl, ⟨_, hs⟩, fun L hL => ?_⟩
    refine lc_ys (L2.walk_tup (K := K) (a := ao) (xs := as.map V.ref)) g.opts (by rw [List.length_map, ln]) (by rw [List.length_map]; omega) (fun o => decide (o.letter ≠ [])) (fun o => ss o.letter) hL (fun H2 e2 => ex_t e2 hs) ?_ ?_
    · rintro i o x H2 H3 hi e2 ⟨rfl, hx⟩ Z N hz hn
      obtain ⟨a1, rfl, oa⟩ := OptsAt.get hp hi hx
      refine ⟨rfl, ?_⟩
      refine ⟨_, rfl, a1, _, 1, _, rfl, rfl, ex_t e2 oa, atI_nat (j := 1) rfl, rfl, _, rfl, ?_⟩
      rw [lit_nil, ss_eq]
      by_cases hl : o.letter = []
      · rw [decide_eq_true hl]
        exact iteF (hn H3 (Ex.refl _) (by simp [hl]))
      · rw [decide_eq_false hl]
        exact iteT ⟨_, rfl, a1, _, 1, _, rfl, rfl, ex_t e2 oa, atI_nat (j := 1) rfl, hz H3 (Ex.refl _) (by simp [hl])⟩
    intro H2 e2 hL2
    have z := q
    unfold readsNum at z
    refine ⟨_, rfl, am, _, 2, _, rfl, rfl, ex_t e2 h4, atI_nat (j := 2) rfl, g.minus, rfl, ?_⟩
    cases hm : g.minus with
    | false =>
      rw [hm] at z
      exact iteF (z H2 e2)
    | true =>
      rw [hm] at z
      have sing : ∀ o ∈ g.opts, o.letter ≠ [] → ∃ c, o.letter = [c] := fun o ho hl => by
        have := ok.oo o ho
        simp only [Opt.ok, Bool.and_eq_true] at this
        have h := letterLen this.1.2
        match hh : o.letter, hl, h with
        | [c], _, _ => exact ⟨c, rfl⟩
      refine iteT ⟨_, rfl, L, rfl, ⟨_, sq_of hL2⟩, fun LL hLL => ?_⟩
      refine lc_ys (L2.walk_list (K := K) (a := L) (xs := (g.opts.filter fun o => decide (o.letter ≠ [])).map fun o => ss o.letter)) (g.opts.filter fun o => decide (o.letter ≠ [])) (by rw [List.length_map]) (by rw [List.length_map]; have := List.length_filter_le (fun o : Opt => decide (o.letter ≠ [])) g.opts; omega)
        (fun _ => true) (fun o => .bl (o.letter.any (mem sgFigure))) hLL (fun H3 e3 => sq_of (e3 _ _ hL2)) ?_ ?_
      · rintro i o x H3 H4 hi e3 ⟨rfl, hx⟩ Z N hz hn
        rw [List.getElem?_map, hi] at hx
        obtain rfl : ss o.letter = x := Option.some.inj hx
        have mo := List.mem_filter.mp (List.mem_of_getElem? hi)
        obtain ⟨c, hc⟩ := sing o mo.1 (by simpa using mo.2)
        refine ⟨rfl, ?_⟩
        refine iteT (B := N H4) ?_
        have e := hz H4 (Ex.refl _) rfl
        rw [hc] at e ⊢
        refine ⟨_, rfl, c, _, rfl, rfl, ?_⟩
        rw [show ([c].any (mem sgFigure)) = mem sgFigure c by simp] at e
        exact e
      · intro H3 e3 h3
        rw [flt_all] at h3
        refine ⟨LL, (g.opts.filter fun o => decide (o.letter ≠ [])).map fun o => o.letter.any (mem sgFigure), rfl, sq_of (by rw [h3, List.map_map]; rfl), _, rfl, ?_⟩
        have e : ((g.opts.filter fun o => decide (o.letter ≠ [])).map fun o => o.letter.any (mem sgFigure)).any id = g.opts.any fun o => o.letter.any (mem sgFigure) := by
          rw [List.any_map, List.any_filter]
          congr 1
          funext o
          by_cases hl : o.letter = []
          · simp [hl]
          · simp [hl]
        rw [e]
        rw [Bool.true_and] at z
        exact z H3 (e2.trans e3)
abbrev s_count_arity : Stmt := top 37
theorem sc_count_arity : FnScope ["places", "arity", "place"] ["places", "arity"] (C8.fnScope s_count_arity) := C8.fnScope_by (by decide +kernel)
theorem ok_countA (F : C8.Def K mg "count_arity" s_count_arity f fd) (b : Binds K fd ["places", "arity"] []) (B : Blt mg) : C8.Cal P w K mg base 1 "count_arity" (spCountA K) [] :=
  C8.cal0 F b .nil sc_count_arity (fun vs H Q E h => h.1) fun cdv A outer s H vs Q E hr h => by
    have nd := sc_count_arity.nd
    obtain ⟨_, v, ⟨a, ps, ar, rfl, ⟨as, hs, hp⟩, l5, rfl⟩, q⟩ := h
    have ln : as.length = ps.length := hp.length
    refine ⟨_, (pss_one (ps_ret (pe_callB (id := "len") call_len_seq (by rfl) B.len_ (by decide +kernel) (pa_cons (pe_lc (own := [("place", 2)]) rfl nd (pi_tup (pv 0)) (blkOk_by (N := ["places", "arity", "place"]) (sc := C8.fnScope s_count_arity) (by decide +kernel)) (fun _ _ _ _ _ => (pg_name (i := 2) nd rfl (by first | exact Or.inl rfl | exact Or.inr rfl))) (fun _ _ _ _ _ => (pts_one (pt_cmpR op_eq (pe_ix (r := rIxT K) ix_tup (pv 2) pe_int (fun _ _ => rfl)) (pv 1) (nomark _)))) (fun _ _ _ _ _ => (pv 2))) pa_nil)))), ?_⟩
    refine ⟨_, rfl, a, rfl, ⟨_, hs⟩, fun L hL => ?_⟩
    refine lc_ys (L2.walk_tup (K := K) (a := a) (xs := as.map V.ref)) (ps.zip as) (by rw [List.length_map, List.length_zip]; omega) (by rw [List.length_map]; omega) (fun o => decide (o.1.2 = ar)) (fun o => .ref o.2) hL (fun H2 e2 => ex_t e2 hs) ?_ ?_
    · rintro i o x H2 H3 hi e2 ⟨rfl, hx⟩ Z N hz hn
      have hz2 := List.getElem?_zip_eq_some.mp hi
      obtain ⟨a1, rfl, oa⟩ := PlsAt.get hp hz2.1 hx
      rw [List.getElem?_map, hz2.2] at hx
      obtain rfl : o.2 = a1 := V.ref.inj (Option.some.inj hx)
      refine ⟨rfl, ?_⟩
      refine ⟨_, rfl, o.2, _, 1, _, rfl, rfl, ex_t e2 oa, atI_nat (j := 1) rfl, _, rfl, rfl, _, rfl, ?_⟩
      rw [ss_eq]
      by_cases hl : o.1.2 = ar
      · rw [decide_eq_true hl]
        exact iteT ⟨_, rfl, hz H3 (Ex.refl _) (decide_eq_true hl)⟩
      · rw [decide_eq_false hl]
        exact iteF (hn H3 (Ex.refl _) (decide_eq_false hl))
    · intro H2 e2 h2
      refine ⟨L, _, rfl, .inl (sq_of h2), ?_⟩
      have e : (((ps.zip as).filter fun o => decide (o.1.2 = ar)).map fun o => V.ref o.2).length = arityCount ps ar := by
        rw [List.length_map]
        unfold arityCount
        have h : ∀ (ps : List (List Nat × List Nat)) (as : List Addr), as.length = ps.length → ((ps.zip as).filter fun o => decide (o.1.2 = ar)).length = (ps.filter fun p => decide (p.2 = ar)).length := by
          intro ps
          induction ps with
          | nil => intro as _; simp
          | cons p r ih =>
            intro as hl
            match as, hl with
            | a :: ar', hl =>
              have := ih ar' (by simpa using hl)
              rw [List.zip_cons_cons, List.filter_cons, List.filter_cons]
              by_cases hp : p.2 = ar
              · simp [hp, this]
              · simp [hp, this]
        exact h ps as ln
      rw [e]
      exact q H2 e2
end
end K9

set_option Elab.async false
set_option maxRecDepth 100000
set_option maxHeartbeats 4000000
namespace K9
open PySem PySem.Spec PyProof.Rows L2 SX Evl KL
section
variable {P : Program} {w : World} {K : PySem.W.Frag} {mg : Str → Option Value} {base : Heap} {f : Addr} {fd : FuncData} {aK aA aV aL : Addr}
abbrev s_shares : Stmt := top 38
theorem sc_shares : FnScope ["places", "count", "others", "spare", "got", "_", "arity"] ["places", "count"] (C8.fnScope s_shares) := C8.fnScope_by (by decide +kernel)
theorem ok_shares (F : C8.Def K mg "shares" s_shares f fd) (b : Binds K fd ["places", "count"] []) (B : Blt mg) (C_count_arity : C8.Cal P w K mg base 1 "count_arity" (spCountA K) []) : C8.Cal P w K mg base 2 "shares" (spShares K) [] :=
  C8.cal0 F b .nil sc_shares (fun vs H Q E h => by obtain ⟨a, ps, n, rfl, _⟩ := h; rfl) fun cdv A outer s H vs Q E hr h => by
    have nd := sc_shares.nd
    obtain ⟨a, ps, n, rfl, hp, l5, qN, qS⟩ := h
    refine ⟨_, (pss_cons (ps_set (i := 2) nd rfl (by first | exact Or.inl rfl | exact Or.inr rfl) (pe_op op_sub (pv 1) (C8.pe_c C_count_arity hr (by decide) rfl (pa_cons (pv 0) (pa_cons pe_str pa_nil)))))
      (pss_cons (ps_set (i := 3) nd rfl (by first | exact Or.inl rfl | exact Or.inr rfl) (pe_op op_sub (pv 2) (C8.pe_c C_count_arity hr (by decide) rfl (pa_cons (pv 0) (pa_cons pe_str pa_nil)))))
      (pss_cons (ps_if (PW.pt (pw_or (pt_cmpR op_lt (pv 2) pe_int (nomark _)) (pw_or1 (PW.pt (pw_and (pt_cmpR op_gt (pv 3) pe_int (nomark _)) (pw_and1 (pt_cmpR op_eq (C8.pe_c C_count_arity hr (by decide) rfl (pa_cons (pv 0) (pa_cons pe_str pa_nil))) pe_int (nomark _)))))))) (pss_one (ps_ret pe_non)) pss_nil)
      (pss_cons (ps_set (i := 4) nd rfl (by first | exact Or.inl rfl | exact Or.inr rfl) (pe_lst pa_nil))
      (pss_cons (ps_for PassesOwn.never rfl (pi_tup (pv 0)) (pg_tup rfl (pgs_cons (pg_name (i := 5) nd rfl (by first | exact Or.inl rfl | exact Or.inr rfl)) (pgs_cons (pg_name (i := 6) nd rfl (by first | exact Or.inl rfl | exact Or.inr rfl)) pgs_nil))) (pss_one (ps_if (pt_cmpR op_eq (pv 6) pe_str (nomark _)) (pss_one (ps_expr (pe_bm PySem.F.plainAttrs_list PySem.F.slot_list_append PySem.F.type_list_append mt_append (pv 4) (pa_cons pe_int pa_nil)))) (pss_one (ps_if (pt_cmpR op_eq (pv 6) pe_str (nomark _)) (pss_one (ps_expr (pe_bm PySem.F.plainAttrs_list PySem.F.slot_list_append PySem.F.type_list_append mt_append (pv 4) (pa_cons (pe_callB (id := "max") (call_max2 rfl) (by rfl) B.max_ (by decide +kernel) (pa_cons (pv 3) (pa_cons pe_int pa_nil))) pa_nil)))) (pss_cons (ps_expr (pe_bm PySem.F.plainAttrs_list PySem.F.slot_list_append PySem.F.type_list_append mt_append (pv 4) (pa_cons (pe_ifExp (pt_cmpR op_gt (pv 2) pe_int (nomark _)) pe_int pe_int) pa_nil)))
      (pss_one (ps_aug (i := 2) nd rfl (by first | exact Or.inl rfl | exact Or.inr rfl) pe_int ip_sub))))))))
      (pss_one (ps_ret (pv 4)))))))), ?_⟩
    refine ⟨_, rfl, _, rfl, rfl, _, ⟨a, ps, aOne, by rw [lit_one]; rfl, hp, l5, rfl⟩, fun H1 e1 => ⟨_, _, rfl, rfl, ?_⟩⟩
    refine ⟨_, rfl, _, rfl, rfl, _, ⟨a, ps, aMay, by rw [lit_may]; rfl, hp.mono e1, l5, rfl⟩, fun H2 e2 => ⟨_, _, rfl, rfl, ?_⟩⟩
    have e12 := e1.trans e2
    have rest : ∀ H3, Ex H H3 → dealOk ps n = true → tSeq (tAsg (tLst tNil) (gName 4)) (tSeq (tFor (iTup K (tVar 0)) (gTup K 2 (gCons (gName 5) (gCons (gName 6) gNil))) (tIfS (tTest (tOp rEq (tVar 6) (tC (V.str "one")))) (tDrop (tBM K "list" rAppend (tVar 4) (tCons (tC (V.int 1)) tNil)))
          (tIfS (tTest (tOp rEq (tVar 6) (tC (V.str "many")))) (tDrop (tBM K "list" rAppend (tVar 4) (tCons (tCB (fun xs H Q => ∃ i j, xs = [V.int i, V.int j] ∧ Q (V.int (if j > i then j else i)) H) (tCons (tVar 3) (tCons (tC (V.int 0)) tNil))) tNil)))
          (tSeq (tDrop (tBM K "list" rAppend (tVar 4) (tCons (tIf (tTest (tOp (rI0 fun i j => V.bl (decide (j < i))) (tVar 2) (tC (V.int 0)))) (tC (V.int 1)) (tC (V.int 0))) tNil))) (tAug 2 (tC (V.int 1)) (ipI fun i j => i - j)))))) (tRet (tVar 4)))
        { nx := fun _ H' => Q .non H', rt := Q } [some (.ref a), some (.int n), some (.int ((n : Int) - (arityCount ps aOne : Nat))), some (.int ((n : Int) - (arityCount ps aOne : Nat) - (arityCount ps aMay : Nat))), none, none, none] H3 := by
      intro H3 e3 hd
      obtain ⟨as, hs, hpp⟩ := hp
      have ln : as.length = ps.length := hpp.length
      refine ⟨Nat.zero_le _, fun G nG => ?_⟩
      have nG0 := fresh_back e3 nG
      refine ⟨_, rfl, a, rfl, ⟨_, ex_t (e3.trans (Ex.new nG)) hs⟩, for_it (L2.walk_tup (K := K) (a := a) (xs := as.map V.ref)) (fun i σ H4 => ∃ (o : Int) (x y : Option V) (xs : List V), σ = [some (.ref a), some (.int n), some (.int o), some (.int ((n : Int) - (arityCount ps aOne : Nat) - (arityCount ps aMay : Nat))), some (.ref G), x, y] ∧ Ex H H4 ∧ H4 G = some (.lst xs) ∧ xs.length ≤ i)
        ⟨_, _, _, [], rfl, e3.trans (Ex.new nG), upd_same, by decide⟩ (fun i σ H4 _ ⟨_, _, _, _, _, e, _⟩ => ex_t e hs) ?_ ?_⟩
      · rintro i x σ H4 H5 hi ⟨o, x0, y0, xs, rfl, e4, hG, lx⟩ ⟨rfl, hx⟩
        rw [List.length_map] at hi
        have hpl : ps[i]? = some (ps[i]'(by omega)) := List.getElem?_eq_getElem _
        generalize ps[i]'(by omega) = pl at hpl
        obtain ⟨a1, rfl, oa⟩ := PlsAt.get hpp hpl hx
        have sz : xs.length < sizeLine := small1000 (by omega)
        have ty : tyV K "list" (V.ref G) H5 := .inl ⟨rfl, _, sq_of hG⟩
        refine ⟨a1, _, rfl, ex_t e4 oa, rfl, _, _, rfl, _, _, rfl, rfl, ?_⟩
        refine ⟨_, rfl, rfl, _, rfl, ?_⟩
        rw [lit_one, ss_eq]
        by_cases h1 : pl.2 = aOne
        · rw [decide_eq_true h1]
          refine iteT ⟨_, rfl, ty, G, xs, _, rfl, rfl, hG, sz, ?_⟩
          exact ⟨_, _, _, _, rfl, Ex.mut e4 nG0, upd_same, by simp; omega⟩
        · rw [decide_eq_false h1]
          refine iteF ⟨_, rfl, rfl, _, rfl, ?_⟩
          rw [lit_many, ss_eq]
          by_cases h2 : pl.2 = aMany
          · rw [decide_eq_true h2]
            refine iteT ⟨_, rfl, ty, _, rfl, _, _, rfl, G, xs, _, rfl, rfl, hG, sz, ?_⟩
            exact ⟨_, _, _, _, rfl, Ex.mut e4 nG0, upd_same, by simp; omega⟩
          · rw [decide_eq_false h2]
            refine iteF ⟨_, rfl, ty, _, rfl, _, _, rfl, rfl, _, rfl, ?_⟩
            have fin : ∀ z : V, tAug 2 (tC (V.int 1)) (ipI fun i j => i - j) { nx := fun σ H4 => ∃ (o : Int) (x y : Option V) (xs : List V), σ = [some (.ref a), some (.int n), some (.int o), some (.int ((n : Int) - (arityCount ps aOne : Nat) - (arityCount ps aMay : Nat))), some (.ref G), x, y] ∧ Ex H H4 ∧ H4 G = some (.lst xs) ∧ xs.length ≤ i + 1, rt := Q }
                [some (.ref a), some (.int n), some (.int o), some (.int ((n : Int) - (arityCount ps aOne : Nat) - (arityCount ps aMay : Nat))), some (.ref G), some (ss pl.1), some (ss pl.2)] (upd H5 G (.lst (xs ++ [z]))) := fun z => by
              refine ⟨_, rfl, _, _, rfl, rfl, ?_⟩
              exact ⟨_, _, _, _, rfl, Ex.mut e4 nG0, upd_same, by simp; omega⟩
            by_cases h3 : 0 < o
            · rw [decide_eq_true h3]
              exact iteT ⟨G, xs, _, rfl, rfl, hG, sz, fin _⟩
            · rw [decide_eq_false h3]
              exact iteF ⟨G, xs, _, rfl, rfl, hG, sz, fin _⟩
      · rintro σ H4 ⟨o, x0, y0, xs, rfl, e4, hG, lx⟩
        exact ⟨_, rfl, qS hd G H4 e4⟩
    refine ⟨_, rfl, _, _, rfl, rfl, _, rfl, ?_⟩
    by_cases ho : (n : Int) - (arityCount ps aOne : Nat) < 0
    · rw [decide_eq_true ho]
      refine iteT (iteT (qN ?_ H2 e12))
      unfold dealOk
      rw [decide_eq_false (by omega), Bool.false_and]
    · rw [decide_eq_false ho]
      refine iteF ⟨_, rfl, _, _, rfl, rfl, _, rfl, ?_⟩
      have h1 : arityCount ps aOne ≤ n := by omega
      by_cases hs : 0 < (n : Int) - (arityCount ps aOne : Nat) - (arityCount ps aMay : Nat)
      · rw [decide_eq_true hs]
        refine iteT ⟨_, rfl, rfl, _, ⟨a, ps, aMany, by rw [lit_many]; rfl, hp.mono e12, l5, rfl⟩, fun H3 e3 => ⟨rfl, _, rfl, ?_⟩⟩
        have e : decide (V.int (arityCount ps aMany : Nat) = V.int 0) = decide (arityCount ps aMany = 0) := by
          rw [Bool.eq_iff_iff]
          simp
        rw [e]
        by_cases hm : arityCount ps aMany = 0
        · rw [decide_eq_true hm]
          refine iteT (qN ?_ H3 (e12.trans e3))
          unfold dealOk
          rw [hm, decide_eq_false (show ¬ n ≤ arityCount ps aOne + arityCount ps aMay by omega)]
          simp
        · rw [decide_eq_false hm]
          refine iteF (rest H3 (e12.trans e3) ?_)
          unfold dealOk
          rw [decide_eq_true h1, decide_eq_true (show 0 < arityCount ps aMany by omega)]
          simp
      · rw [decide_eq_false hs]
        refine iteF (iteF (rest H2 e12 ?_))
        unfold dealOk
        rw [decide_eq_true h1, decide_eq_true (show n ≤ arityCount ps aOne + arityCount ps aMay by omega)]
        simp
end
end K9

set_option Elab.async false
set_option maxRecDepth 100000
set_option maxHeartbeats 4000000
namespace K9
open PySem PySem.Spec PyProof.Rows L2 SX Evl KL
section
variable {P : Program} {w : World} {K : PySem.W.Frag} {mg : Str → Option Value} {base : Heap} {f : Addr} {fd : FuncData} {aK aA aV aL C : Addr}
abbrev s_give : Stmt := inClass (top 42) 6
theorem sc_give : FnScope ["self", "name", "what", "got"] ["self", "name", "what"] (C8.fnScope s_give) := C8.fnScope_by (by decide +kernel)
theorem ok_give (T : RdC K C) (me : Meth K C "give" f) (F : C8.Fun K "give" "Reading.give" s_give f fd) (b : Binds K fd ["self", "name", "what"] []) (B : Blt mg) : C8.Met P w K mg base 1 C "give" (spGive K C) [] :=
  C8.met0 T.cl me F b sc_give (fun vs H Q E h => by obtain ⟨_, _, _, _, _, _, _, rfl, _⟩ := h; rfl) fun cdv A outer s H vs Q E hr h => by
    have nd := sc_give.nd
    have hu := hu_of hr
    obtain ⟨g, H0, me, n, x, st, m, rfl, ⟨dx, dT, dK, dL, ap, dG, pL, ts, ps, c, R⟩, hm, hk, han, q⟩ := h
    refine ⟨_, (pss_cons (ps_set (i := 3) nd rfl (by first | exact Or.inl rfl | exact Or.inr rfl) (pe_dsetd (pe_fld (pv 0) rfl) (pv 1) (pe_lst pa_nil) ⟨rfl, rfl, rfl, rfl⟩))
      (pss_cons (ps_expr (pe_bm PySem.F.plainAttrs_list PySem.F.slot_list_append PySem.F.type_list_append mt_append (pv 3) (pa_cons (pv 2) pa_nil)))
      (pss_one (ps_if (PW.pt (pw_and (pt_cmpR op_eq (pe_dget hu (pe_fld (pv 0) rfl) (pv 1) (fun _ _ => rfl)) pe_str (nomark _)) (pw_and1 (pt_cmpR op_gt (pe_callB (id := "len") call_len_seq (by rfl) B.len_ (by decide +kernel) (pa_cons (pv 3) pa_nil)) pe_int (nomark _))))) (pss_one (ps_fld (pv 0) pe_bl rfl)) pss_nil)))), ?_⟩
    -- got = self.got.setdefault(name, [])
    refine ⟨_, rfl, me, C, dx, _, _, rfl, R.ob, T.cl, T.got, rfl, dG, rfl, .inl ⟨_, .inl R.rep.dk⟩, _, rfl, Nat.zero_le _, fun z hz => ?_⟩
    have e1 : Ex H (upd H z (.lst [])) := Ex.new hz
    have kl : ((ts.zip ps).map fun tp => (kS tp.1, V.ref tp.2)).length < sizeLine := by
      refine sz_lt ?_
      have := R.tm
      rw [List.length_map, List.length_zip]
      omega
    -- behind got.append(what): the test
    have fin : ∀ (p : Addr) (H2 : Hp) (ts' : List (List Nat)) (ps' : List Addr), RdAt K g C H0 H2 me dx dT dK dL ap dG pL ts' ps' (more c n x) { st with got := fun u => if u = n then st.got u + 1 else st.got u } (m + 1) → H2 p = some (.lst (more c n x n)) →
        tIfS (tAnd (tTest (tOp rEq (tDGet (tFld K (tVar 0) "kinds") (tVar 1)) (tC (V.str "once")))) (tTest (tOp (rI0 fun i j => V.bl (decide (j < i))) (tCB (fun xs H Q => ∃ p ys, xs = [V.ref p] ∧ (SqL K H p ys ∨ SqT K H p ys) ∧ Q (V.int ys.length) H) (tCons (tVar 3) tNil)) (tC (V.int 1)))))
          (sFld K (tVar 0) (tC (V.bl true)) "refused") tNext { nx := fun _ H' => Q .non H', rt := Q } [some (.ref me), some (ss n), some x, some (.ref p)] H2 := by
      intro p H2 ts' ps' R2 hp
      obtain ⟨kv, hK, vK⟩ := R2.fK
      refine ⟨_, rfl, me, C, dx, _, _, rfl, R2.ob, T.cl, T.kinds, rfl, _, rfl, dK, _, rfl, .inl ⟨kv, kS n, .inl hK, rfl, by rw [vK n, kindOf_some hk]; rfl⟩, rfl, _, rfl, ?_⟩
      rw [lit_once_eq]
      have cl : (more c n x n).length = st.got n + 1 := by
        unfold more
        rw [if_pos rfl, List.length_append, R.cn n]
        rfl
      have noRef : (decide (kindOf g n = kOnce) && decide (1 < st.got n + 1)) = false → Q .non H2 := fun e => by
        refine q H2 ⟨dx, dT, dK, dL, ap, dG, pL, ts', ps', more c n x, ?_⟩
        unfold giveF
        rw [e, Bool.or_false]
        exact R2
      by_cases ho : kindOf g n = kOnce
      · rw [decide_eq_true ho]
        refine iteT ⟨_, rfl, p, _, rfl, .inl (sq_of hp), _, _, rfl, rfl, _, rfl, ?_⟩
        rw [cl]
        by_cases h2 : 1 < st.got n + 1
        · rw [decide_eq_true (show (1 : Int) < ((st.got n + 1 : Nat) : Int) by omega)]
          refine iteT ⟨_, rfl, me, C, dx, _, rfl, R2.ob, T.cl, T.refused, (by show 12 < 1000; decide), ?_⟩
          refine q _ ⟨dx, dT, dK, dL, ap, dG, pL, ts', ps', more c n x, ?_⟩
          have r := R2.store (cl := st.closed) (rf := true) (la := st.lasting) (a := st.awaited) han
          unfold giveF
          rw [decide_eq_true ho, decide_eq_true h2, Bool.and_true, Bool.or_true]
          exact r
        · rw [decide_eq_false (show ¬ (1 : Int) < ((st.got n + 1 : Nat) : Int) by omega)]
          exact iteF (noRef (by rw [decide_eq_false h2, Bool.and_false]))
      · rw [decide_eq_false ho]
        exact iteF (noRef (by rw [decide_eq_false ho, Bool.false_and]))
    have lc : (c n).length < sizeLine := sz_lt (by have := R.cn n; have := R.cm n; omega)
    refine ⟨_, kS n, e1 _ _ R.rep.dk, rfl, kl, fun v hv => ?_, fun hn => ?_⟩
    · have ht : n ∈ ts := by
        by_cases mm : n ∈ ts
        · exact mm
        · rw [zip_none mm] at hv
          cases hv
      obtain ⟨p, hp, hH, hf, stp⟩ := R.rep.old (x := x) ht
      rw [hp] at hv
      cases hv
      have mp : p ∈ ps := by
        obtain ⟨i, hi, e⟩ := List.mem_iff_getElem.mp ht
        obtain ⟨p', hp', hv'⟩ := zip_at R.rep.len R.rep.nd (show ts[i]? = some n by rw [← e]; exact List.getElem?_eq_getElem hi)
        rw [hp] at hv'
        cases hv'
        exact List.mem_of_getElem? hp'
      refine ⟨_, rfl, .inl ⟨rfl, _, sq_of (e1 _ _ hH)⟩, _, rfl, p, _, _, rfl, rfl, e1 _ _ hH, lc, ?_⟩
      refine fin p _ ts ps (R.gave (stp _ e1) (fun b o hb _ hbp => ?_) R.self_ne.2.2 R.np (fun d kv h => (R.dk_ne h).2.2) (Nat.le_succ_of_le R.tm)) ?_
      · have hbq : b ≠ p := fun z => hbp (by rw [z]; exact mp)
        rw [upd_ne hbq]
        exact e1 _ _ hb
      · rw [upd_same]
        unfold more
        rw [if_pos rfl]
    · have ht : n ∉ ts := fun mm => by
        obtain ⟨p, hp, _⟩ := R.rep.old (x := x) mm
        rw [hp] at hn
        cases hn
      obtain ⟨_, nzD, r⟩ := R.rep.new (x := x) ht hz
      have nin : ∀ b o, H b = some o → b ∉ ps → b ∉ ps ++ [z] := fun b o hb hp hm => by
        rcases List.mem_append.mp hm with q | q
        · exact hp q
        · rw [List.mem_singleton.mp q, hz] at hb
          cases hb
      obtain ⟨xs, hx, _⟩ := R.pL_
      refine ⟨_, rfl, .inl ⟨rfl, _, sq_of (by rw [upd_ne nzD, upd_same])⟩, _, rfl, z, [], _, rfl, rfl, by rw [upd_ne nzD, upd_same], small1000 (by decide), ?_⟩
      refine fin z _ _ _ (R.gave r (fun b o hb hD hbp => ?_) (nin _ _ R.ob R.self_ne.2.2) (nin _ _ hx R.np) (fun d kv h => nin _ _ h (R.dk_ne h).2.2) ?_) ?_
      · have hbz : b ≠ z := ne_of_none hb hz
        rw [upd_ne hbz, upd_ne hD, upd_ne hbz]
        exact hb
      · have := R.tm
        rw [List.length_append]
        simp
        omega
      · rw [upd_same]
        unfold more
        rw [if_pos rfl, R.rep.nc n ht]
end
end K9

set_option Elab.async false
set_option maxRecDepth 100000
set_option maxHeartbeats 4000000
namespace K9
open PySem PySem.Spec PyProof.Rows L2 SX Evl KL
section
variable {P : Program} {w : World} {K : PySem.W.Frag} {mg : Str → Option Value} {base : Heap} {f : Addr} {fd : FuncData} {aK aA aV aL C : Addr}
abbrev s_give_or_await : Stmt := inClass (top 42) 5
theorem sc_give_or_await : FnScope ["self", "name"] ["self", "name"] (C8.fnScope s_give_or_await) := C8.fnScope_by (by decide +kernel)
theorem ok_await (T' : RdC K C) (me : Meth K C "give_or_await" f) (F : C8.Fun K "give_or_await" "Reading.give_or_await" s_give_or_await f fd) (b : Binds K fd ["self", "name"] []) (B : Blt mg) (T : Csts K mg aK aA aV aL) (M_give : C8.Met P w K mg base 1 C "give" (spGive K C) []) :
    C8.Met P w K mg base 2 C "give_or_await" (spAwait K C) [] :=
  C8.met0 T'.cl me F b sc_give_or_await (fun vs H Q E h => by obtain ⟨_, _, _, _, _, _, rfl, _⟩ := h; rfl) fun cdv A outer s H vs Q E hr h => by
    have nd := sc_give_or_await.nd
    have hu := hu_of hr
    obtain ⟨g, H0, me, n, st, m, rfl, ⟨dx, dT, dK, dL, ap, dG, pL, ts, ps, c, R⟩, hm, hk, q⟩ := h
    refine ⟨_, (pss_one (ps_if (pt_cmpR op_in_seq (pe_dget hu (pe_fld (pv 0) rfl) (pv 1) (fun _ _ => rfl)) (C8.pe_gc rfl (T.g_LONE)) (by rfl)) (pss_one (ps_expr (C8.pe_mt M_give hr (by decide) (pv 0) (pa_cons (pv 1) (pa_cons pe_int pa_nil))))) (pss_one (ps_fld (pv 0) (pv 1) rfl)))), ?_⟩
    obtain ⟨kv, hK, vK⟩ := R.fK
    refine ⟨_, rfl, me, C, dx, _, _, rfl, R.ob, T'.cl, T'.kinds, rfl, _, rfl, dK, _, rfl, .inl ⟨kv, kS n, .inl hK, rfl, by rw [vK n, kindOf_some hk]; rfl⟩, aL, _, rfl, .inr (T.t_LONE _), rfl, rfl, _, rfl, ?_⟩
    have e := in_lone (kindOf g n)
    unfold awaitF at q
    show if inV (ss (kindOf g n)) [.str "flag", .str "count", .str "maybe"] = true then _ else _
    rw [e]
    cases hl : lone (kindOf g n) with
    | true =>
      rw [hl] at q
      exact iteT ⟨_, rfl, me, dx, _, rfl, R.ob, rfl, _, rfl, g, H0, me, n, _, st, m, rfl, ⟨dx, dT, dK, dL, ap, dG, pL, ts, ps, c, R⟩, hm, hk, R.an, q⟩
    | false =>
      rw [hl] at q
      refine iteF ⟨_, rfl, _, rfl, me, C, dx, _, rfl, R.ob, T'.cl, T'.awaited, (by show 12 < 1000; decide), ?_⟩
      refine q _ ⟨dx, dT, dK, dL, ap, dG, pL, ts, ps, c, ?_⟩
      have r := R.store (cl := st.closed) (rf := st.refused) (la := st.lasting) (a := some n) (fun n' hn => by cases hn; exact hk)
      exact r.le (Nat.le_succ m)
abbrev s_read_place_word : Stmt := inClass (top 42) 2
theorem sc_read_place_word : FnScope ["self", "word"] ["self", "word"] (C8.fnScope s_read_place_word) := C8.fnScope_by (by decide +kernel)
theorem ok_placeW (T' : RdC K C) (me : Meth K C "read_place_word" f) (F : C8.Fun K "read_place_word" "Reading.read_place_word" s_read_place_word f fd) (b : Binds K fd ["self", "word"] []) (B : Blt mg) : C8.Met P w K mg base 1 C "read_place_word" (spPlaceW K C) [] :=
  C8.met0 T'.cl me F b sc_read_place_word (fun vs H Q E h => by obtain ⟨_, _, _, _, _, _, rfl, _⟩ := h; rfl) fun cdv A outer s H vs Q E hr h => by
    have nd := sc_read_place_word.nd
    obtain ⟨g, H0, me, x, st, m, rfl, ⟨dx, dT, dK, dL, ap, dG, pL, ts, ps, c, R⟩, hm, q⟩ := h
    refine ⟨_, (pss_cons (ps_expr (pe_bm PySem.F.plainAttrs_list PySem.F.slot_list_append PySem.F.type_list_append mt_append (pe_fld (pv 0) rfl) (pa_cons (pv 1) pa_nil)))
      (pss_one (ps_if (pt_not (pt_val (pe_fld (pv 0) rfl))) (pss_one (ps_fld (pv 0) pe_bl rfl)) pss_nil))), ?_⟩
    obtain ⟨xs, hx, lx⟩ := R.pL_
    have R2 := R.place hx x
    refine ⟨_, rfl, me, C, dx, _, _, rfl, R.ob, T'.cl, T'.placed, rfl, .inl ⟨rfl, _, sq_of hx⟩, _, rfl, pL, xs, _, rfl, rfl, hx, sz_lt (by have := R.pm; omega), ?_⟩
    refine ⟨_, rfl, me, C, dx, _, _, rfl, R2.ob, T'.cl, T'.mixed, rfl, g.mixed, rfl, ?_⟩
    unfold placeF at q
    cases hx : g.mixed with
    | true =>
      rw [hx] at q
      refine iteF (q _ ⟨dx, dT, dK, dL, ap, dG, pL, ts, ps, c, ?_⟩)
      have e : ({ st with placed := st.placed + 1, closed := st.closed || !true } : Rs) = { st with placed := st.placed + 1 } := by simp
      rw [e]
      exact R2
    | false =>
      rw [hx] at q
      refine iteT ⟨_, rfl, me, C, dx, _, rfl, R2.ob, T'.cl, T'.closed, (by show 12 < 1000; decide), ?_⟩
      refine q _ ⟨dx, dT, dK, dL, ap, dG, pL, ts, ps, c, ?_⟩
      have r := R2.store (cl := true) (rf := st.refused) (la := st.lasting) (a := st.awaited) R.an
      have e : ({ st with placed := st.placed + 1, closed := st.closed || !false } : Rs) = { st with placed := st.placed + 1, closed := true } := by simp
      rw [e]
      exact r
end
end K9

set_option Elab.async false
set_option maxRecDepth 100000
set_option maxHeartbeats 4000000
namespace K9
open PySem PySem.Spec PyProof.Rows L2 SX Evl KL
section
variable {P : Program} {w : World} {K : PySem.W.Frag} {mg : Str → Option Value} {base : Heap} {f : Addr} {fd : FuncData} {aK aA aV aL C : Addr}
abbrev s_read_long : Stmt := inClass (top 42) 3
theorem sc_read_long : FnScope ["self", "word", "told", "equals", "value", "name"] ["self", "word"] (C8.fnScope s_read_long) := C8.fnScope_by (by decide +kernel)
theorem ok_long (T' : RdC K C) (me : Meth K C "read_long" f) (F : C8.Fun K "read_long" "Reading.read_long" s_read_long f fd) (b : Binds K fd ["self", "word"] []) (B : Blt mg) (T : Csts K mg aK aA aV aL) (M_give : C8.Met P w K mg base 1 C "give" (spGive K C) [])
    (M_give_or_await : C8.Met P w K mg base 2 C "give_or_await" (spAwait K C) []) : C8.Met P w K mg base 3 C "read_long" (spLong K C) [] :=
  C8.met0 T'.cl me F b sc_read_long (fun vs H Q E h => by obtain ⟨_, _, _, _, _, _, rfl, _⟩ := h; rfl) fun cdv A outer s H vs Q E hr h => by
    have nd := sc_read_long.nd
    have hu := hu_of hr
    obtain ⟨g, H0, me, l, st, m, rfl, ok, l1000, ⟨dx, dT, dK, dL, ap, dG, pL, ts, ps, c, R⟩, hm, q⟩ := h
    refine ⟨_, (pss_cons (ps_asg (pe_partition (pe_slice C8.sl_txt (pv 1) (po_some pe_int) po_none) pe_str) (pg_tup rfl (pgs_cons (pg_name (i := 2) nd rfl (by first | exact Or.inl rfl | exact Or.inr rfl)) (pgs_cons (pg_name (i := 3) nd rfl (by first | exact Or.inl rfl | exact Or.inr rfl)) (pgs_cons (pg_name (i := 4) nd rfl (by first | exact Or.inl rfl | exact Or.inr rfl)) pgs_nil)))))
      (pss_cons (ps_if (pt_cmp (pc_dnotin hu (pv 2) (pe_fld (pv 0) rfl))) (pss_cons (ps_fld (pv 0) pe_bl rfl)
      (pss_one ps_retN)) pss_nil)
      (pss_cons (ps_set (i := 5) nd rfl (by first | exact Or.inl rfl | exact Or.inr rfl) (pe_dget hu (pe_fld (pv 0) rfl) (pv 2) (fun _ _ => rfl)))
      (C8.pss_cut (ps_if (pt_cmpR op_ne (pv 2) (pv 5) (nomark _)) (pss_one (ps_fld (pv 0) pe_bl rfl)) pss_nil)
      (pss_one (ps_if (pt_cmpR op_eq (pv 3) pe_str (nomark _)) (pss_one (ps_expr (C8.pe_mt M_give_or_await hr (by decide) (pv 0) (pa_cons (pv 5) pa_nil)))) (pss_one (ps_if (pt_cmpR op_in_seq (pe_dget hu (pe_fld (pv 0) rfl) (pv 5) (fun _ _ => rfl)) (C8.pe_gc rfl (T.g_VALUELESS)) (by rfl)) (pss_one (ps_fld (pv 0) pe_bl rfl)) (pss_one (ps_expr (C8.pe_mt M_give hr (by decide) (pv 0) (pa_cons (pv 5) (pa_cons (pv 4) pa_nil))))))))))))), ?_⟩
    refine ⟨_, rfl, _, rfl, _, rfl, len1000 l1000, ?_⟩
    rw [slice_from (by decide), show (2 : Int).toNat = 2 from rfl]
    refine ⟨⟨_, rfl⟩, _, _, rfl, rfl, by rw [lit_eq]; rfl, len1000 (by rw [List.length_drop]; omega), fun p hp => ?_⟩
    rw [lit_eq]
    -- told, the rest
    obtain ⟨t, eq, vl, hpart, hcut⟩ : ∃ t eq vl, Txt.partition (S (l.drop 2)) (S [61]) = (S t, S eq, S vl) ∧ ((cutEq (l.drop 2) = (t, none) ∧ eq = []) ∨ (cutEq (l.drop 2) = (t, some vl) ∧ eq = [61])) := by
      cases hpar : TL.par [61] [] (l.drop 2) with
      | none => exact ⟨l.drop 2, [], [], partition_none (by simp) hpar, .inl ⟨by unfold cutEq; rw [hpar], rfl⟩⟩
      | some pq => exact ⟨pq.1, [61], pq.2, partition_some (by simp) hpar, .inr ⟨by unfold cutEq; rw [hpar], rfl⟩⟩
    rw [hpart]
    have ep : Ex H (upd H p (.tup [ss t, ss eq, ss vl])) := Ex.new hp
    have R1 := R.mono ep
    obtain ⟨kT, hT, vT⟩ := R1.fT
    have c1 : (cutEq (l.drop 2)).1 = t := by rcases hcut with ⟨e, _⟩ | ⟨e, _⟩ <;> rw [e]
    unfold longF at q
    rw [c1] at q
    refine ⟨p, _, rfl, st_of upd_same, rfl, _, _, rfl, _, _, rfl, _, _, rfl, rfl, ?_⟩
    refine ⟨_, rfl, _, rfl, me, C, dx, _, _, rfl, R1.ob, T'.cl, T'.told, rfl, dT, _, rfl, .inl ⟨kT, kS t, .inl hT, rfl, rfl⟩, _, rfl, ?_⟩
    rw [vT t]
    cases htell : tellF g t with
    | none =>
      rw [htell] at q
      refine iteT ⟨_, rfl, me, C, dx, _, rfl, R1.ob, T'.cl, T'.refused, (by show 12 < 1000; decide), ?_⟩
      refine q _ ⟨dx, dT, dK, dL, ap, dG, pL, ts, ps, c, ?_⟩
      exact (R1.store (cl := st.closed) (rf := true) (la := st.lasting) (a := st.awaited) R.an).le (Nat.le_succ m)
    | some n =>
      rw [htell] at q
      have hk := tellF_kind htell
      refine iteF ⟨_, rfl, me, C, dx, _, _, rfl, R1.ob, T'.cl, T'.told, rfl, _, rfl, dT, _, rfl, .inl ⟨kT, kS t, .inl hT, rfl, by rw [vT t, htell]; rfl⟩, ?_⟩
      -- if told != name: self.lasting = False
      refine ⟨fun σ H3 => σ = [some (.ref me), some (ss l), some (ss t), some (ss eq), some (ss vl), some (ss n)] ∧ RdAt K g C H0 H3 me dx dT dK dL ap dG pL ts ps c (if t = n then st else { st with lasting := false }) m, ?_, ?_⟩
      · refine ⟨_, rfl, _, rfl, rfl, _, rfl, ?_⟩
        rw [ss_eq]
        by_cases htn : t = n
        · rw [decide_eq_true htn]
          exact iteF ⟨rfl, by rw [if_pos htn]; exact R1⟩
        · rw [decide_eq_false htn]
          refine iteT ⟨_, rfl, me, C, dx, _, rfl, R1.ob, T'.cl, T'.lasting, (by show 12 < 1000; decide), rfl, ?_⟩
          rw [if_neg htn]
          exact R1.store (cl := st.closed) (rf := st.refused) (la := false) (a := st.awaited) R.an
      · rintro σ H3 ⟨rfl, R3⟩
        have q : ∀ H', Rd_ K g C H0 H' me (match (cutEq (l.drop 2)).2 with
            | none => awaitF g n (if t = n then st else { st with lasting := false })
            | some _ => if valueless (kindOf g n) then { (if t = n then st else { st with lasting := false } : Rs) with refused := true } else giveF g n (if t = n then st else { st with lasting := false })) (m + 1) → Q .non H' := q
        refine ⟨_, rfl, rfl, _, rfl, ?_⟩
        rw [lit_nil, ss_eq]
        rcases hcut with ⟨e, he⟩ | ⟨e, he⟩
        · rw [e] at q
          rw [decide_eq_true he]
          exact iteT ⟨_, rfl, me, dx, _, rfl, R3.ob, rfl, _, rfl, g, H0, me, n, _, m, rfl, ⟨dx, dT, dK, dL, ap, dG, pL, ts, ps, c, R3⟩, hm, hk, q⟩
        · rw [e] at q
          rw [decide_eq_false (by rw [he]; simp)]
          obtain ⟨kv, hK, vK⟩ := R3.fK
          refine iteF ⟨_, rfl, me, C, dx, _, _, rfl, R3.ob, T'.cl, T'.kinds, rfl, _, rfl, dK, _, rfl, .inl ⟨kv, kS n, .inl hK, rfl, by rw [vK n, kindOf_some hk]; rfl⟩, aV, _, rfl, .inr (T.t_VALUELESS _), rfl, rfl, _, rfl, ?_⟩
          show if inV (ss (kindOf g n)) [.str "flag", .str "count"] = true then _ else _
          rw [in_valueless]
          cases hv : valueless (kindOf g n) with
          | true =>
            rw [hv] at q
            refine iteT ⟨_, rfl, me, C, dx, _, rfl, R3.ob, T'.cl, T'.refused, (by show 12 < 1000; decide), ?_⟩
            refine q _ ⟨dx, dT, dK, dL, ap, dG, pL, ts, ps, c, ?_⟩
            exact (R3.store (rf := true) R3.an).le (Nat.le_succ m)
          | false =>
            rw [hv] at q
            exact iteF ⟨_, rfl, me, dx, _, rfl, R3.ob, rfl, _, rfl, _, rfl, g, H0, me, n, _, _, m, rfl, ⟨dx, dT, dK, dL, ap, dG, pL, ts, ps, c, R3⟩, hm, hk, R3.an, q⟩
abbrev s_read_letters : Stmt := inClass (top 42) 4
theorem sc_read_letters : FnScope ["self", "word", "at", "name", "rest"] ["self", "word"] (C8.fnScope s_read_letters) := C8.fnScope_by (by decide +kernel)
theorem ok_letters (T' : RdC K C) (me : Meth K C "read_letters" f) (F : C8.Fun K "read_letters" "Reading.read_letters" s_read_letters f fd) (b : Binds K fd ["self", "word"] []) (B : Blt mg) (T : Csts K mg aK aA aV aL) (M_give : C8.Met P w K mg base 1 C "give" (spGive K C) [])
    (M_give_or_await : C8.Met P w K mg base 2 C "give_or_await" (spAwait K C) []) : C8.Met P w K mg base 3 C "read_letters" (spLetters K C) [] :=
  C8.met0 T'.cl me F b sc_read_letters (fun vs H Q E h => by obtain ⟨_, _, _, _, _, _, rfl, _⟩ := h; rfl) fun cdv A outer s H vs Q E hr h => by
    have nd := sc_read_letters.nd
    have hu := hu_of hr
    obtain ⟨g, H0, me, l, st, m, rfl, ok, l1, l100, ⟨dx, dT, dK, dL, ap, dG, pL, ts, ps, c, R⟩, hm, q⟩ := h
    refine ⟨_, (pss_one (ps_for PassesOwn.never rfl (pi_range2 (by rfl) B.range_ (pa_cons pe_int (pa_cons (pe_callB (id := "len") call_len_str (by rfl) B.len_ (by decide +kernel) (pa_cons (pv 1) pa_nil)) pa_nil))) (pg_name (i := 2) nd rfl (by first | exact Or.inl rfl | exact Or.inr rfl)) (pss_cons (ps_if (pt_cmp (pc_dnotin hu (pe_ix ix_str (pv 1) (pv 2) (fun _ _ => rfl)) (pe_fld (pv 0) rfl))) (pss_cons (ps_fld (pv 0) pe_bl rfl)
      (pss_one ps_retN)) pss_nil)
      (pss_cons (ps_set (i := 3) nd rfl (by first | exact Or.inl rfl | exact Or.inr rfl) (pe_dget hu (pe_fld (pv 0) rfl) (pe_ix ix_str (pv 1) (pv 2) (fun _ _ => rfl)) (fun _ _ => rfl)))
      (pss_cons (ps_set (i := 4) nd rfl (by first | exact Or.inl rfl | exact Or.inr rfl) (pe_slice C8.sl_txt (pv 1) (po_some (pe_op op_add (pv 2) pe_int)) po_none))
      (pss_one (ps_if (pt_cmpR op_in_seq (pe_dget hu (pe_fld (pv 0) rfl) (pv 3) (fun _ _ => rfl)) (C8.pe_gc rfl (T.g_VALUELESS)) (by rfl)) (pss_one (ps_expr (C8.pe_mt M_give hr (by decide) (pv 0) (pa_cons (pv 3) (pa_cons pe_int pa_nil))))) (pss_one (ps_if (pt_cmpR op_eq (pv 4) pe_str (nomark _)) (pss_one (ps_expr (C8.pe_mt M_give_or_await hr (by decide) (pv 0) (pa_cons (pv 3) pa_nil)))) (pss_cons (ps_expr (C8.pe_mt M_give hr (by decide) (pv 0) (pa_cons (pv 3) (pa_cons (pv 4) pa_nil))))
      (pss_one ps_retN))))))))))), ?_⟩
    refine ⟨_, rfl, _, rfl, len1000 (by omega), _, _, rfl, ?_⟩
    have eN : (((S l).length : Int) - 1).toNat = l.length - 1 := by rw [S_len]; omega
    refine ⟨by rw [S_len]; omega, ?_⟩
    rw [eN]
    refine for_it (walk_range (lo := 1) (n := l.length - 1)) (fun i σ H1 => ∃ x y z st1 m1, σ = [some (.ref me), some (ss l), x, y, z] ∧ Rd_ K g C H0 H1 me st1 m1 ∧ m1 ≤ m + i ∧ lettersF g (l.drop (1 + i)) st1 = lettersF g (l.drop 1) st)
      ⟨_, _, _, st, m, rfl, ⟨dx, dT, dK, dL, ap, dG, pL, ts, ps, c, R⟩, Nat.le_refl _, rfl⟩ (fun _ _ _ _ _ => trivial) ?_ ?_
    · rintro i x σ H1 H2 hi ⟨x0, y0, z0, st1, m1, rfl, ⟨dx, dT, dK, dL, ap, dG, pL, ts, ps, c, R1⟩, hm1, hgo⟩ ⟨rfl, rfl⟩
      have il : 1 + i < l.length := by omega
      have hc : l[1 + i]? = some l[1 + i] := List.getElem?_eq_getElem il
      generalize l[1 + i] = ch at hc
      have dr : l.drop (1 + i) = ch :: l.drop (1 + (i + 1)) := by
        rw [List.drop_eq_getElem_cons il]
        congr 1
        rw [List.getElem?_eq_getElem il] at hc
        exact Option.some.inj hc
      have at1 : atI (S l).cps.toList (1 + (i : Nat) : Int) = some ch := by
        have h1 := atI_nat (xs := (S l).cps.toList) (j := 1 + i) (v := ch) (by simpa [S] using hc)
        rwa [show ((1 + i : Nat) : Int) = 1 + (i : Nat) by omega] at h1
      obtain ⟨kL, hL, vL⟩ := R1.fL
      rw [dr] at hgo
      refine ⟨_, rfl, _, rfl, _, _, ch, rfl, rfl, len1000 (by omega), at1, _, rfl, me, C, dx, _, _, rfl, R1.ob, T'.cl, T'.letters, rfl, dL, _, rfl, .inl ⟨kL, kS [ch], .inl hL, rfl, rfl⟩, _, rfl, ?_⟩
      rw [vL [ch]]
      cases hlet : letterF g [ch] with
      | none =>
        rw [lettersF_none hlet] at hgo
        refine iteT ⟨_, rfl, me, C, dx, _, rfl, R1.ob, T'.cl, T'.refused, (by show 12 < 1000; decide), ?_⟩
        refine q _ ?_
        rw [← hgo]
        exact ⟨dx, dT, dK, dL, ap, dG, pL, ts, ps, c, (R1.store (cl := st1.closed) (rf := true) (la := st1.lasting) (a := st1.awaited) R1.an).le (by omega)⟩
      | some n =>
        rw [lettersF_some hlet] at hgo
        have hk := letterF_kind hlet
        refine iteF ⟨_, rfl, me, C, dx, _, _, rfl, R1.ob, T'.cl, T'.letters, rfl, _, rfl, _, rfl, _, _, ch, rfl, rfl, len1000 (by omega), at1, dL, _, rfl, .inl ⟨kL, kS [ch], .inl hL, rfl, by rw [vL [ch], hlet]; rfl⟩, ?_⟩
        refine ⟨_, rfl, _, rfl, _, _, rfl, rfl, _, rfl, _, rfl, len1000 (by omega), ?_⟩
        have e2 : ((1 : Int) + (i : Nat) + 1).toNat = 1 + (i + 1) := by omega
        rw [slice_from (by omega), e2]
        obtain ⟨kv, hK, vK⟩ := R1.fK
        refine ⟨_, rfl, me, C, dx, _, _, rfl, R1.ob, T'.cl, T'.kinds, rfl, _, rfl, dK, _, rfl, .inl ⟨kv, kS n, .inl hK, rfl, by rw [vK n, kindOf_some hk]; rfl⟩, aV, _, rfl, .inr (T.t_VALUELESS _), rfl, rfl, _, rfl, ?_⟩
        show if inV (ss (kindOf g n)) [.str "flag", .str "count"] = true then _ else _
        rw [in_valueless]
        have RR : Rd_ K g C H0 H2 me st1 m1 := ⟨dx, dT, dK, dL, ap, dG, pL, ts, ps, c, R1⟩
        have hgo : (if valueless (kindOf g n) then lettersF g (l.drop (1 + (i + 1))) (giveF g n st1) else if l.drop (1 + (i + 1)) = [] then awaitF g n st1 else giveF g n st1) = lettersF g (l.drop 1) st := hgo
        cases hv : valueless (kindOf g n) with
        | true =>
          rw [hv] at hgo
          refine iteT ⟨_, rfl, me, dx, _, rfl, R1.ob, rfl, _, rfl, g, H0, me, n, _, st1, m1, rfl, RR, by omega, hk, R1.an, fun H3 R3 => ?_⟩
          exact ⟨_, _, _, _, m1 + 1, rfl, R3, by omega, hgo⟩
        | false =>
          rw [hv] at hgo
          have hgo : (if l.drop (1 + (i + 1)) = [] then awaitF g n st1 else giveF g n st1) = lettersF g (l.drop 1) st := hgo
          refine iteF ⟨_, rfl, rfl, _, rfl, ?_⟩
          rw [lit_nil, ss_eq]
          by_cases hz : l.drop (1 + (i + 1)) = []
          · rw [if_pos hz] at hgo
            rw [decide_eq_true hz]
            refine iteT ⟨_, rfl, me, dx, _, rfl, R1.ob, rfl, _, rfl, g, H0, me, n, st1, m1, rfl, RR, by omega, hk, fun H3 R3 => ?_⟩
            exact ⟨_, _, _, _, m1 + 1, rfl, R3, by omega, by rw [hz]; exact hgo⟩
          · rw [if_neg hz] at hgo
            rw [decide_eq_false hz]
            refine iteF ⟨_, rfl, me, dx, _, rfl, R1.ob, rfl, _, rfl, _, rfl, g, H0, me, n, _, st1, m1, rfl, RR, by omega, hk, R1.an, fun H3 R3 => ?_⟩
            refine q _ ?_
            rw [← hgo]
            obtain ⟨dx, dT, dK, dL, ap, dG, pL, ts, ps, c, R4⟩ := R3
            exact ⟨dx, dT, dK, dL, ap, dG, pL, ts, ps, c, R4.le (by omega)⟩
    · rintro σ H1 ⟨x0, y0, z0, st1, m1, rfl, ⟨dx, dT, dK, dL, ap, dG, pL, ts, ps, c, R1⟩, hm1, hgo⟩
      have dz : l.drop (1 + (l.length - 1)) = [] := List.drop_eq_nil_of_le (by omega)
      rw [dz] at hgo
      have hgo : st1 = lettersF g (l.drop 1) st := hgo
      refine q _ ?_
      rw [← hgo]
      exact ⟨dx, dT, dK, dL, ap, dG, pL, ts, ps, c, R1.le (by omega)⟩
end
end K9

set_option Elab.async false
set_option maxRecDepth 100000
set_option maxHeartbeats 4000000
namespace K9
open PySem PySem.Spec PyProof.Rows L2 SX Evl KL
section
variable {P : Program} {w : World} {K : PySem.W.Frag} {mg : Str → Option Value} {base : Heap} {f : Addr} {fd : FuncData} {aK aA aV aL C : Addr}
abbrev s_read_word : Stmt := inClass (top 42) 1
theorem sc_read_word : FnScope ["self", "word", "name"] ["self", "word"] (C8.fnScope s_read_word) := C8.fnScope_by (by decide +kernel)
theorem ok_wordM (T' : RdC K C) (me : Meth K C "read_word" f) (F : C8.Fun K "read_word" "Reading.read_word" s_read_word f fd) (b : Binds K fd ["self", "word"] []) (B : Blt mg) (C_is_dashed : C8.Cal P w K mg base 1 "is_dashed" spDashed []) (C_is_number : C8.Cal P w K mg base 2 "is_number" spNumber [])
    (M_give : C8.Met P w K mg base 1 C "give" (spGive K C) []) (M_read_place_word : C8.Met P w K mg base 1 C "read_place_word" (spPlaceW K C) []) (M_read_long : C8.Met P w K mg base 3 C "read_long" (spLong K C) []) (M_read_letters : C8.Met P w K mg base 3 C "read_letters" (spLetters K C) []) :
    C8.Met P w K mg base 4 C "read_word" (spWordM K C) [] :=
  C8.met0 T'.cl me F b sc_read_word (fun vs H Q E h => by obtain ⟨_, _, _, _, _, _, rfl, _⟩ := h; rfl) fun cdv A outer s H vs Q E hr h => by
    have nd := sc_read_word.nd
    have hu := hu_of hr
    obtain ⟨g, H0, me, l, st, m, rfl, ok, l100, ⟨dx, dT, dK, dL, ap, dG, pL, ts, ps, c, R⟩, hm, q⟩ := h
    refine ⟨_, (pss_one (ps_if (pt_cmp (pc_notN (pe_fld (pv 0) rfl))) (pss_cons (ps_set (i := 2) nd rfl (by first | exact Or.inl rfl | exact Or.inr rfl) (pe_fld (pv 0) rfl))
      (pss_cons (ps_fld (pv 0) pe_non rfl)
      (pss_one (ps_expr (C8.pe_mt M_give hr (by decide) (pv 0) (pa_cons (pv 2) (pa_cons (pv 1) pa_nil))))))) (pss_one (ps_if (pt_val (pe_fld (pv 0) rfl)) (pss_one (ps_expr (pe_bm PySem.F.plainAttrs_list PySem.F.slot_list_append PySem.F.type_list_append mt_append (pe_fld (pv 0) rfl) (pa_cons (pv 1) pa_nil)))) (pss_one (ps_if (pt_not (pt_val (C8.pe_c C_is_dashed hr (by decide) rfl (pa_cons (pv 1) pa_nil)))) (pss_one (ps_expr (C8.pe_mt M_read_place_word hr (by decide) (pv 0) (pa_cons (pv 1) pa_nil)))) (pss_one (ps_if (pt_cmpR op_eq (pv 1) pe_str (nomark _)) (pss_one (ps_fld (pv 0) pe_bl rfl)) (pss_one (ps_if (pt_val (pe_m1 PySem.F.slot_str_startswith PySem.F.type_str_startswith mt_startswith (pv 1) pe_str)) (pss_one (ps_expr (C8.pe_mt M_read_long hr (by decide) (pv 0) (pa_cons (pv 1) pa_nil)))) (pss_one (ps_if (PW.pt (pw_and (pt_val (pe_fld (pv 0) rfl)) (pw_and1 (pt_val (C8.pe_c C_is_number hr (by decide) rfl (pa_cons (pv 1) pa_nil)))))) (pss_cons (ps_fld (pv 0) pe_bl rfl)
      (pss_one (ps_expr (C8.pe_mt M_read_place_word hr (by decide) (pv 0) (pa_cons (pv 1) pa_nil))))) (pss_one (ps_expr (C8.pe_mt M_read_letters hr (by decide) (pv 0) (pa_cons (pv 1) pa_nil)))))))))))))))), ?_⟩
    have up : ∀ {H' : Hp} {st' : Rs}, Rd_ K g C H0 H' me st' (m + 1) → Rd_ K g C H0 H' me st' (m + 100) := by
      rintro H' st' ⟨dx, dT, dK, dL, ap, dG, pL, ts, ps, c, R⟩
      exact ⟨dx, dT, dK, dL, ap, dG, pL, ts, ps, c, R.le (by omega)⟩
    refine ⟨_, rfl, me, C, dx, _, _, rfl, R.ob, T'.cl, T'.awaited, rfl, _, rfl, ?_⟩
    cases haw : st.awaited with
    | some n =>
      rw [wordF_some haw] at q
      have hk := R.an n haw
      refine iteT ⟨_, rfl, me, C, dx, _, _, rfl, R.ob, T'.cl, T'.awaited, rfl, ?_⟩
      rw [haw]
      have R2 := R.store (cl := st.closed) (rf := st.refused) (la := st.lasting) (a := none) (fun _ z => nomatch z)
      refine ⟨_, rfl, me, C, dx, _, rfl, R.ob, T'.cl, T'.awaited, (by show 12 < 1000; decide), ?_⟩
      refine ⟨_, rfl, me, dx, _, rfl, R2.ob, rfl, _, rfl, _, rfl, g, H0, me, n, _, _, m, rfl, ⟨dx, dT, dK, dL, ap, dG, pL, ts, ps, c, R2⟩, by omega, hk, R2.an, fun H3 R3 => q _ (up R3)⟩
    | none =>
      rw [wordF_none haw] at q
      refine iteF ⟨_, rfl, me, C, dx, _, _, rfl, R.ob, T'.cl, T'.closed, rfl, _, rfl, ?_⟩
      have RR : Rd_ K g C H0 H me st m := ⟨dx, dT, dK, dL, ap, dG, pL, ts, ps, c, R⟩
      cases hc : st.closed with
      | true =>
        rw [if_pos hc] at q
        obtain ⟨xs, hx, lx⟩ := R.pL_
        refine iteT ⟨_, rfl, me, C, dx, _, _, rfl, R.ob, T'.cl, T'.placed, rfl, .inl ⟨rfl, _, sq_of hx⟩, _, rfl, pL, xs, _, rfl, rfl, hx, sz_lt (by have := R.pm; omega), ?_⟩
        exact q _ (up ⟨dx, dT, dK, dL, ap, dG, pL, ts, ps, c, R.place hx _⟩)
      | false =>
        rw [if_neg (by rw [hc]; exact Bool.false_ne_true)] at q
        refine iteF ⟨_, rfl, rfl, _, ⟨l, rfl, by omega, rfl⟩, fun H1 e1 => ⟨_, rfl, ?_⟩⟩
        have R1 := R.mono e1
        have RR1 : Rd_ K g C H0 H1 me st m := ⟨dx, dT, dK, dL, ap, dG, pL, ts, ps, c, R1⟩
        cases hd : dashed l with
        | false =>
          rw [if_pos (by rw [hd]; rfl)] at q
          exact iteT ⟨_, rfl, me, dx, _, rfl, R1.ob, rfl, _, rfl, g, H0, me, _, st, m, rfl, RR1, by omega, fun H3 R3 => q _ (up R3)⟩
        | true =>
          rw [if_neg (by rw [hd]; exact Bool.false_ne_true)] at q
          refine iteF ⟨_, rfl, rfl, _, rfl, ?_⟩
          rw [lit_dd, ss_eq]
          by_cases h2 : l = [45, 45]
          · rw [if_pos h2] at q
            rw [decide_eq_true h2]
            refine iteT ⟨_, rfl, me, C, dx, _, rfl, R1.ob, T'.cl, T'.closed, (by show 12 < 1000; decide), ?_⟩
            exact q _ ⟨dx, dT, dK, dL, ap, dG, pL, ts, ps, c, (R1.store (cl := true) (rf := st.refused) (la := st.lasting) (a := st.awaited) R1.an).le (by omega)⟩
          · rw [if_neg h2] at q
            rw [decide_eq_false h2]
            refine iteF ⟨_, rfl, ⟨_, rfl⟩, _, _, rfl, rfl, _, rfl, ?_⟩
            rw [st_S, show ([45, 45] : List Nat).length = 2 from rfl]
            by_cases h3 : l.take 2 = [45, 45]
            · rw [if_pos h3] at q
              rw [decide_eq_true h3]
              exact iteT ⟨_, rfl, me, dx, _, rfl, R1.ob, rfl, _, rfl, g, H0, me, l, st, m, rfl, ok, by omega, RR1, by omega, fun H3 R3 => q _ (up R3)⟩
            · rw [if_neg h3] at q
              rw [decide_eq_false h3]
              have l1 : 1 ≤ l.length := by
                cases l with
                | nil => exact absurd hd (by decide)
                | cons a r => simp
              have goL : ∀ H2, Ex H1 H2 → (readsNum g && number l) = false → tDrop (tMeth C "read_letters" (spLetters K C) [] C8.E0 (tVar 0) (tCons (tVar 1) tNil)) { nx := fun _ H' => Q .non H', rt := Q } [some (.ref me), some (ss l), none] H2 := by
                intro H2 e2 hn
                rw [if_neg (by rw [hn]; exact Bool.false_ne_true)] at q
                have R2 := R1.mono e2
                exact ⟨_, rfl, me, dx, _, rfl, R2.ob, rfl, _, rfl, g, H0, me, l, st, m, rfl, ok, l1, l100, ⟨dx, dT, dK, dL, ap, dG, pL, ts, ps, c, R2⟩, hm, q⟩
              refine iteF ⟨_, rfl, me, C, dx, _, _, rfl, R1.ob, T'.cl, T'.minus, rfl, _, rfl, ?_⟩
              cases hmn : readsNum g with
              | false => exact iteF (iteF (goL H1 (Ex.refl _) (by rw [hmn]; rfl)))
              | true =>
                refine iteT ⟨_, rfl, rfl, _, ⟨l, rfl, by omega, rfl⟩, fun H2 e2 => ⟨_, rfl, ?_⟩⟩
                cases hnum : number l with
                | false => exact iteF (goL H2 e2 (by rw [hnum, Bool.and_false]))
                | true =>
                  rw [if_pos (by rw [hmn, hnum]; rfl)] at q
                  have R2 := R1.mono e2
                  have R3 := R2.store (cl := st.closed) (rf := st.refused) (la := false) (a := st.awaited) R2.an
                  refine iteT ⟨_, rfl, me, C, dx, _, rfl, R2.ob, T'.cl, T'.lasting, (by show 12 < 1000; decide), ?_⟩
                  exact ⟨_, rfl, me, dx, _, rfl, R3.ob, rfl, _, rfl, g, H0, me, _, _, m, rfl, ⟨dx, dT, dK, dL, ap, dG, pL, ts, ps, c, R3⟩, by omega, fun H4 R4 => q _ (up R4)⟩
end
end K9

set_option Elab.async false
set_option maxRecDepth 100000
set_option maxHeartbeats 4000000
namespace K9
open PySem PySem.Spec PyProof.Rows L2 SX Evl KL
section
variable {P : Program} {w : World} {K : PySem.W.Frag} {mg : Str → Option Value} {base : Heap} {f : Addr} {fd : FuncData} {aK aA aV aL C : Addr}
abbrev s_init : Stmt := inClass (top 42) 0
theorem sc_init : FnScope ["self", "grammar", "options", "places", "modes", "name", "_", "kind", "letter"] ["self", "grammar"] (C8.fnScope s_init) := C8.fnScope_by (by decide +kernel)
theorem ok_initR (T' : RdC K C) (M : Mk K C f) (hC : mg "Reading" = some (.ref C)) (F : C8.Fun K "__init__" "Reading.__init__" s_init f fd) (b : Binds K fd ["self", "grammar"] []) (B : Blt mg) (C_told_names : C8.Cal P w K mg base 2 "told_names" (spTold K) []) (C_reads_numbers : C8.Cal P w K mg base 1 "reads_numbers" (spReadsNum K) []) :
    C8.Mak P w K mg base 3 "Reading" C (spInitR K C) [] :=
  C8.mak0 M hC F b .nil sc_init (fun vs H Q E h => by obtain ⟨_, _, _, _, _, rfl, _⟩ := h; rfl) fun cdv A outer s H vs Q E hr h => by
    have nd := sc_init.nd
    have hu := hu_of hr
    obtain ⟨g, H0, me, dx, a, rfl, hme, e0, n0, ha, ok, q⟩ := h
    obtain ⟨ao, ap, am, h1, ⟨as, hs, hp⟩, h3, h4⟩ := ha.ex
    have ln : as.length = g.opts.length := hp.length
    have l24 := ok.ol
    have few : ∀ n : Nat, n ≤ 12 → n < 1000 := fun n h => by omega
    refine ⟨_, (pss_cons (ps_asg (pv 1) (pg_tup rfl (pgs_cons (pg_name (i := 2) nd rfl (by first | exact Or.inl rfl | exact Or.inr rfl)) (pgs_cons (pg_name (i := 3) nd rfl (by first | exact Or.inl rfl | exact Or.inr rfl)) (pgs_cons (pg_name (i := 4) nd rfl (by first | exact Or.inl rfl | exact Or.inr rfl)) pgs_nil)))))
      (pss_cons (ps_fld (pv 0) (C8.pe_c C_told_names hr (by decide) rfl (pa_cons (pv 1) pa_nil)) rfl)
      (pss_cons (ps_fld (pv 0) (pe_dc (own := [("name", 5), ("_", 6), ("kind", 7)]) (g := gTup K 3 (gCons (gName 5) (gCons (gName 6) (gCons (gName 7) gNil)))) rfl nd (pi_tup (pv 2)) (blkOk_by (N := ["self", "grammar", "options", "places", "modes", "name", "_", "kind", "letter"]) (sc := C8.fnScope s_init) (by decide +kernel)) (fun _ _ _ _ _ => (by exact (pg_tup rfl (pgs_cons (pg_name (i := 5) nd rfl (by first | exact Or.inl rfl | exact Or.inr rfl)) (pgs_cons (pg_name (i := 6) nd rfl (by first | exact Or.inl rfl | exact Or.inr rfl)) (pgs_cons (pg_name (i := 7) nd rfl (by first | exact Or.inl rfl | exact Or.inr rfl)) pgs_nil)))))) (fun _ _ _ _ _ => pts_nil) (fun _ _ _ _ _ => (pv 5)) (fun _ _ _ _ _ => (pv 7))) rfl)
      (pss_cons (ps_fld (pv 0) (pe_dc (own := [("name", 5), ("letter", 8), ("_", 6)]) (g := gTup K 3 (gCons (gName 5) (gCons (gName 8) (gCons (gName 6) gNil)))) rfl nd (pi_tup (pv 2)) (blkOk_by (N := ["self", "grammar", "options", "places", "modes", "name", "_", "kind", "letter"]) (sc := C8.fnScope s_init) (by decide +kernel)) (fun _ _ _ _ _ => (by exact (pg_tup rfl (pgs_cons (pg_name (i := 5) nd rfl (by first | exact Or.inl rfl | exact Or.inr rfl)) (pgs_cons (pg_name (i := 8) nd rfl (by first | exact Or.inl rfl | exact Or.inr rfl)) (pgs_cons (pg_name (i := 6) nd rfl (by first | exact Or.inl rfl | exact Or.inr rfl)) pgs_nil)))))) (fun _ _ _ _ _ => (pts_one (pt_cmpR op_ne (pv 8) pe_str (nomark _)))) (fun _ _ _ _ _ => (pv 8)) (fun _ _ _ _ _ => (pv 5))) rfl)
      (pss_cons (ps_fld (pv 0) (pv 3) rfl)
      (pss_cons (ps_fld (pv 0) (pe_ix ix_tup (pv 4) pe_int (fun _ _ => rfl)) rfl)
      (pss_cons (ps_fld (pv 0) (C8.pe_c C_reads_numbers hr (by decide) rfl (pa_cons (pv 1) pa_nil)) rfl)
      (pss_cons (ps_fld (pv 0) pe_bl rfl)
      (pss_cons (ps_fld (pv 0) pe_non rfl)
      (pss_cons (ps_fld (pv 0) pe_bl rfl)
      (pss_cons (ps_fld (pv 0) pe_bl rfl)
      (pss_cons (ps_fld (pv 0) pe_dnewK rfl)
      (pss_one (ps_fld (pv 0) (pe_lst pa_nil) rfl)))))))))))))), ?_⟩
    refine ⟨_, rfl, a, _, rfl, ex_t e0 h1, rfl, _, _, rfl, _, _, rfl, _, _, rfl, rfl, ?_⟩
    -- self.told
    refine ⟨_, rfl, a, g, rfl, ha.mono e0, ok, fun D1 Ha kvT ea nD1 hD1 lT vT => ⟨_, rfl, me, C, dx, _, rfl, ea _ _ hme, T'.cl, T'.told, few _ (by decide), ?_⟩⟩
    have m1 : ∀ {H : Hp} {d : Addr} {fs : List (Str × V)}, H me = some (.ins C dx fs) → H d = none → d ≠ me := fun h h' z => by rw [z, h] at h'; cases h'
    have D1me : D1 ≠ me := m1 hme nD1
    generalize hH1 : upd Ha me (.ins C dx (putF "told" (.ref D1) [])) = H1
    have b1 : ExB me H H1 := by rw [← hH1]; exact (ExB.of ea).trans .put
    have o1 : H1 me = some (.ins C dx [("told", .ref D1)]) := by rw [← hH1]; exact upd_same
    have k1 : H1 D1 = some (.dK kvT) := by rw [← hH1, upd_ne D1me]; exact hD1
    have x1 : Ex H0 H1 := b1.ex e0 n0
    -- self.kinds
    refine ⟨_, rfl, ao, rfl, ⟨_, ex_t x1 hs⟩, fun D2 n2 => ?_⟩
    have D2me : D2 ≠ me := m1 o1 n2
    refine dc_ys (L2.walk_tup (K := K) (a := ao) (xs := as.map V.ref)) g.opts (by rw [List.length_map, ln]) (by rw [List.length_map]; omega) (fun _ => true) (fun o => kS o.name) (fun o => ss o.kind) n2 (fun H2 e2 => ex_t (x1.trans e2) hs) ?_ ?_
    · rintro i o x Hx Hy hi e2 ⟨rfl, hx⟩ Z N hz hn
      obtain ⟨a1, rfl, oa⟩ := OptsAt.get hp hi hx
      refine ⟨a1, _, rfl, ex_t (x1.trans e2) oa, rfl, _, _, rfl, _, _, rfl, _, _, rfl, rfl, rfl, ?_⟩
      refine iteT (B := N Hy) ?_
      exact ⟨_, rfl, _, rfl, hz Hy (Ex.refl _) rfl⟩
    intro H2' e2 k2'
    refine ⟨_, rfl, me, C, dx, _, rfl, e2 _ _ o1, T'.cl, T'.kinds, few _ (by show 1 ≤ 12; decide), ?_⟩
    generalize hH2 : upd H2' me (.ins C dx (putF "kinds" (.ref D2) [("told", .ref D1)])) = H2
    have b2 : ExB me H1 H2 := by rw [← hH2]; exact (ExB.of e2).trans .put
    have o2 : H2 me = some (.ins C dx [("told", .ref D1), ("kinds", .ref D2)]) := by rw [← hH2]; exact upd_same
    have k2 : H2 D2 = some (.dK ((g.opts.filter fun _ => true).foldl (fun acc y => putK acc (kS y.name) (ss y.kind)) [])) := by rw [← hH2, upd_ne D2me]; exact k2'
    have x2 : Ex H0 H2 := (b1.trans b2).ex e0 n0
    -- self.letters
    refine ⟨_, rfl, ao, rfl, ⟨_, ex_t x2 hs⟩, fun D3 n3 => ?_⟩
    have D3me : D3 ≠ me := m1 o2 n3
    refine dc_ys (L2.walk_tup (K := K) (a := ao) (xs := as.map V.ref)) g.opts (by rw [List.length_map, ln]) (by rw [List.length_map]; omega) (fun o => decide (o.letter ≠ [])) (fun o => kS o.letter) (fun o => ss o.name) n3 (fun H3 e3 => ex_t (x2.trans e3) hs) ?_ ?_
    · rintro i o x Hx Hy hi e3 ⟨rfl, hx⟩ Z N hz hn
      obtain ⟨a1, rfl, oa⟩ := OptsAt.get hp hi hx
      refine ⟨a1, _, rfl, ex_t (x2.trans e3) oa, rfl, _, _, rfl, _, _, rfl, _, _, rfl, rfl, rfl, ?_⟩
      refine ⟨_, rfl, rfl, _, rfl, ?_⟩
      rw [lit_nil, ss_eq]
      by_cases hl : o.letter = []
      · rw [decide_eq_true hl]
        exact iteF (hn Hy (Ex.refl _) (by simp [hl]))
      · rw [decide_eq_false hl]
        exact iteT ⟨_, rfl, _, rfl, hz Hy (Ex.refl _) (by simp [hl])⟩
    intro H3' e3 k3'
    refine ⟨_, rfl, me, C, dx, _, rfl, e3 _ _ o2, T'.cl, T'.letters, few _ (by show 2 ≤ 12; decide), ?_⟩
    generalize hH3 : upd H3' me (.ins C dx (putF "letters" (.ref D3) [("told", .ref D1), ("kinds", .ref D2)])) = H3
    have b3 : ExB me H2 H3 := by rw [← hH3]; exact (ExB.of e3).trans .put
    have o3 : H3 me = some (.ins C dx [("told", .ref D1), ("kinds", .ref D2), ("letters", .ref D3)]) := by rw [← hH3]; exact upd_same
    have k3 : H3 D3 = some (.dK ((g.opts.filter fun o => decide (o.letter ≠ [])).foldl (fun acc y => putK acc (kS y.letter) (ss y.name)) [])) := by rw [← hH3, upd_ne D3me]; exact k3'
    -- self.places, self.mixed
    refine ⟨_, rfl, _, rfl, me, C, dx, _, rfl, o3, T'.cl, T'.places, few _ (by show 3 ≤ 12; decide), ?_⟩
    have o4 : upd H3 me (.ins C dx (putF "places" (.ref ap) [("told", .ref D1), ("kinds", .ref D2), ("letters", .ref D3)])) me = some (.ins C dx [("told", .ref D1), ("kinds", .ref D2), ("letters", .ref D3), ("places", .ref ap)]) := upd_same
    have b4 : ExB me H3 (upd H3 me (.ins C dx (putF "places" (.ref ap) [("told", .ref D1), ("kinds", .ref D2), ("letters", .ref D3)]))) := .put
    generalize upd H3 me (.ins C dx (putF "places" (.ref ap) [("told", .ref D1), ("kinds", .ref D2), ("letters", .ref D3)])) = H4 at o4 b4
    have x4 : Ex H0 H4 := (((b1.trans b2).trans b3).trans b4).ex e0 n0
    refine ⟨_, rfl, am, _, 1, _, rfl, rfl, ex_t x4 h4, atI_nat (j := 1) rfl, _, rfl, me, C, dx, _, rfl, o4, T'.cl, T'.mixed, few _ (by show 4 ≤ 12; decide), ?_⟩
    have o5 : upd H4 me (.ins C dx (putF "mixed" (.bl g.mixed) [("told", .ref D1), ("kinds", .ref D2), ("letters", .ref D3), ("places", .ref ap)])) me = some (.ins C dx [("told", .ref D1), ("kinds", .ref D2), ("letters", .ref D3), ("places", .ref ap), ("mixed", .bl g.mixed)]) := upd_same
    have b5 : ExB me H4 (upd H4 me (.ins C dx (putF "mixed" (.bl g.mixed) [("told", .ref D1), ("kinds", .ref D2), ("letters", .ref D3), ("places", .ref ap)]))) := .put
    generalize upd H4 me (.ins C dx (putF "mixed" (.bl g.mixed) [("told", .ref D1), ("kinds", .ref D2), ("letters", .ref D3), ("places", .ref ap)])) = H5 at o5 b5
    have x5 : Ex H0 H5 := ((((b1.trans b2).trans b3).trans b4).trans b5).ex e0 n0
    -- self.minus
    refine ⟨_, rfl, rfl, _, ⟨a, g, rfl, ha.mono x5, ok, rfl⟩, fun H6' e6 => ?_⟩
    refine ⟨_, rfl, me, C, dx, _, rfl, e6 _ _ o5, T'.cl, T'.minus, few _ (by show 5 ≤ 12; decide), ?_⟩
    have b6 : ExB me H5 H6' := ExB.of e6
    have o6 := e6 _ _ o5
    -- closed, awaited, refused, lasting
    refine ⟨_, rfl, me, C, dx, _, rfl, upd_same, T'.cl, T'.closed, few _ (by show 6 ≤ 12; decide), ?_⟩
    refine ⟨_, rfl, me, C, dx, _, rfl, upd_same, T'.cl, T'.awaited, few _ (by show 7 ≤ 12; decide), ?_⟩
    refine ⟨_, rfl, me, C, dx, _, rfl, upd_same, T'.cl, T'.refused, few _ (by show 8 ≤ 12; decide), ?_⟩
    refine ⟨_, rfl, me, C, dx, _, rfl, upd_same, T'.cl, T'.lasting, few _ (by show 9 ≤ 12; decide), ?_⟩
    have o7 : ∀ Hq : Hp, ∀ fs, upd Hq me (.ins C dx fs) me = some (.ins C dx fs) := fun _ _ => upd_same
    rw [upd_upd, upd_upd, upd_upd, upd_upd]
    generalize hH7 : upd H6' me _ = H7
    have b7 : ExB me H6' H7 := by rw [← hH7]; exact .put
    have o8 : H7 me = some (.ins C dx [("told", .ref D1), ("kinds", .ref D2), ("letters", .ref D3), ("places", .ref ap), ("mixed", .bl g.mixed), ("minus", .bl (readsNum g)), ("closed", .bl false), ("awaited", .non), ("refused", .bl false), ("lasting", .bl true)]) := by rw [← hH7]; exact upd_same
    -- self.got
    intro D4 n4
    have D4me : D4 ≠ me := m1 o8 n4
    have e8 : Ex H7 (upd H7 D4 (.dK [])) := Ex.new n4
    refine ⟨_, rfl, me, C, dx, _, rfl, e8 _ _ o8, T'.cl, T'.got, few _ (by show 10 ≤ 12; decide), ?_⟩
    generalize hH8 : upd (upd H7 D4 (.dK [])) me _ = H8
    have b8 : ExB me H7 H8 := by rw [← hH8]; exact (ExB.of e8).trans .put
    have o9 : H8 me = some (.ins C dx [("told", .ref D1), ("kinds", .ref D2), ("letters", .ref D3), ("places", .ref ap), ("mixed", .bl g.mixed), ("minus", .bl (readsNum g)), ("closed", .bl false), ("awaited", .non), ("refused", .bl false), ("lasting", .bl true), ("got", .ref D4)]) := by rw [← hH8]; exact upd_same
    have k4 : H8 D4 = some (.dK []) := by rw [← hH8, upd_ne D4me, upd_same]
    -- self.placed
    refine ⟨Nat.zero_le _, fun L nL => ?_⟩
    have Lme : L ≠ me := m1 o9 nL
    have e9 : Ex H8 (upd H8 L (.lst [])) := Ex.new nL
    refine ⟨_, rfl, me, C, dx, _, rfl, e9 _ _ o9, T'.cl, T'.placed, few _ (by show 11 ≤ 12; decide), ?_⟩
    generalize hH9 : upd (upd H8 L (.lst [])) me _ = H9
    have b9 : ExB me H8 H9 := by rw [← hH9]; exact (ExB.of e9).trans .put
    have o10 : H9 me = some (.ins C dx (flds D1 D2 D3 ap D4 L g.mixed (readsNum g) false false true .non)) := by rw [← hH9]; exact upd_same
    have kL : H9 L = some (.lst []) := by rw [← hH9, upd_ne Lme, upd_same]
    have c17 : ExB me H1 H7 := (((((b2.trans b3).trans b4).trans b5).trans b6).trans b7)
    have c27 : ExB me H2 H7 := ((((b3.trans b4).trans b5).trans b6).trans b7)
    have c37 : ExB me H3 H7 := (((b4.trans b5).trans b6).trans b7)
    have f1 := c17 _ _ D1me k1
    have f2 := c27 _ _ D2me k2
    have f3 := c37 _ _ D3me k3
    have x9 : Ex H0 H9 := ((((b1.trans c17).trans b8).trans b9)).ex e0 n0
    have nD4_0 : H0 D4 = none := fresh_back ((b1.trans c17).ex e0 n0) n4
    have nL_0 : H0 L = none := fresh_back (((b1.trans c17).trans b8).ex e0 n0) nL
    have ne14 : D1 ≠ D4 := ne_of_none f1 n4
    have ne24 : D2 ≠ D4 := ne_of_none f2 n4
    have ne34 : D3 ≠ D4 := ne_of_none f3 n4
    refine q H9 ⟨dx, D1, D2, D3, ap, D4, L, [], [], fun _ => [], ?_⟩
    exact
    { ob := o10
      fT := ⟨_, b9 _ _ D1me (b8 _ _ D1me f1), vT⟩
      fK := ⟨_, b9 _ _ D2me (b8 _ _ D2me f2), kinds_val ok⟩
      fL := ⟨_, b9 _ _ D3me (b8 _ _ D3me f3), letters_val ok⟩
      pl := h3
      rep := ⟨x9, b9 _ _ D4me k4, rfl, List.nodup_nil, fun _ _ => rfl, fun t m => absurd m List.not_mem_nil, fun i t p e => by simp at e, List.nodup_nil, fun p m => absurd m List.not_mem_nil, nD4_0⟩
      cn := fun _ => rfl
      cm := fun _ => Nat.le_refl _
      tm := Nat.le_refl _
      pL_ := ⟨[], kL, rfl⟩
      pm := Nat.le_refl _
      nT := ne14
      nK := ne24
      nL := ne34
      np := List.not_mem_nil
      f0 := n0
      f1 := nL_0
      an := fun _ z => nomatch z }
end
end K9

set_option Elab.async false
set_option maxRecDepth 100000
set_option maxHeartbeats 4000000
namespace K9
open PySem PySem.Spec PyProof.Rows L2 SX Evl KL
section
variable {P : Program} {w : World} {K : PySem.W.Frag} {mg : Str → Option Value} {base : Heap} {f : Addr} {fd : FuncData} {aK aA aV aL C : Addr}
abbrev s_reading_of : Stmt := top 43
theorem sc_reading_of : FnScope ["grammar", "words", "reading", "word"] ["grammar", "words"] (C8.fnScope s_reading_of) := C8.fnScope_by (by decide +kernel)
theorem ok_readingOf (T' : RdC K C) (F : C8.Def K mg "reading_of" s_reading_of f fd) (b : Binds K fd ["grammar", "words"] []) (B : Blt mg) (C_Reading : C8.Mak P w K mg base 3 "Reading" C (spInitR K C) []) (C_shares : C8.Cal P w K mg base 2 "shares" (spShares K) [])
    (M_read_word : C8.Met P w K mg base 4 C "read_word" (spWordM K C) []) : C8.Cal P w K mg base 5 "reading_of" (spReadingOf K C) [] :=
  C8.cal0 F b .nil sc_reading_of (fun vs H Q E h => by obtain ⟨_, _, _, _, rfl, _⟩ := h; rfl) fun cdv A outer s H vs Q E hr h => by
    have nd := sc_reading_of.nd
    obtain ⟨g, a, b', line, rfl, ha, ok, hb, l80, w80, qN, qS⟩ := h
    refine ⟨_, (pss_cons (ps_set (i := 2) nd rfl (by first | exact Or.inl rfl | exact Or.inr rfl) (C8.pe_mk C_Reading hr (by decide) rfl (pa_cons (pv 0) pa_nil)))
      (pss_cons (ps_for PassesOwn.never rfl (pi_tup (pv 1)) (pg_name (i := 3) nd rfl (by first | exact Or.inl rfl | exact Or.inr rfl)) (pss_cons (ps_expr (C8.pe_mt M_read_word hr (by decide) (pv 2) (pa_cons (pv 3) pa_nil)))
      (pss_one (ps_if (pt_val (pe_fld (pv 2) rfl)) (pss_one (ps_ret pe_non)) pss_nil))))
      (pss_cons (ps_if (PW.pt (pw_or (pt_cmp (pc_notN (pe_fld (pv 2) rfl))) (pw_or1 (pt_cmp (pc_isN (C8.pe_c C_shares hr (by decide) rfl (pa_cons (pe_fld (pv 2) rfl) (pa_cons (pe_callB (id := "len") call_len_seq (by rfl) B.len_ (by decide +kernel) (pa_cons (pe_fld (pv 2) rfl) pa_nil)) pa_nil)))))))) (pss_one (ps_ret pe_non)) pss_nil)
      (pss_one (ps_ret (pv 2)))))), ?_⟩
    refine ⟨_, rfl, fun x dx nx ndx nex => ?_⟩
    have e1 : Ex H (upd (upd H dx (.own x)) x (.ins C dx [])) := (Ex.new ndx).trans (Ex.new (by rw [upd_ne (Ne.symm nex)]; exact nx))
    refine ⟨g, H, x, dx, a, rfl, upd_same, e1, nx, ha, ok, fun H1 R1 => ⟨rfl, ?_⟩⟩
    have ex1 : Ex H H1 := by obtain ⟨_, _, _, _, _, _, _, _, _, _, R⟩ := R1; exact R.rep.ex
    have refd : (lineF g line rs0).refused = true → acceptedF g line = false := fun h => by
      unfold acceptedF
      rw [h]
      rfl
    refine ⟨_, rfl, b', rfl, ⟨_, ex_t ex1 hb⟩, for_it (L2.walk_tup (K := K) (a := b') (xs := line.map ss)) (fun i σ H2 => ∃ y st m1, σ = [some (.ref a), some (.ref b'), some (.ref x), y] ∧ Rd_ K g C H H2 x st m1 ∧ m1 ≤ 100 * i ∧ lineF g (line.drop i) st = lineF g line rs0 ∧ st.refused = false)
      ⟨_, rs0, 0, rfl, R1, Nat.le_refl _, rfl, rfl⟩ (fun i σ H2 _ ⟨_, _, _, _, ⟨_, _, _, _, _, _, _, _, _, _, R⟩, _⟩ => ex_t R.rep.ex hb) ?_ ?_⟩
    · rintro i y σ H2 H3 hi ⟨y0, st, m1, rfl, R2, hm1, hgo, hrf⟩ ⟨rfl, hy⟩
      rw [List.length_map] at hi
      have hl : line[i]? = some line[i] := List.getElem?_eq_getElem hi
      rw [List.getElem?_map, hl] at hy
      obtain rfl : ss line[i] = y := Option.some.inj hy
      have dr : line.drop i = line[i] :: line.drop (i + 1) := List.drop_eq_getElem_cons hi
      rw [dr] at hgo
      have wl := w80 _ (List.mem_of_getElem? hl)
      generalize line[i] = l at hgo wl
      have R2' := R2
      obtain ⟨dx2, dT, dK, dL, ap, dG, pL, ts, ps, c, R⟩ := R2
      refine ⟨_, rfl, x, dx2, _, rfl, R.ob, rfl, _, rfl, g, H, x, l, st, m1, rfl, ok, by omega, R2', by omega, fun H4 R4 => ?_⟩
      have R4' := R4
      obtain ⟨dx3, dT3, dK3, dL3, ap3, dG3, pL3, ts3, ps3, c3, R5⟩ := R4
      refine ⟨_, rfl, x, C, dx3, _, _, rfl, R5.ob, T'.cl, T'.refused, rfl, _, rfl, ?_⟩
      have hgo : (if (wordF g l st).refused then wordF g l st else lineF g (line.drop (i + 1)) (wordF g l st)) = lineF g line rs0 := hgo
      cases hr : (wordF g l st).refused with
      | true =>
        rw [if_pos hr] at hgo
        exact iteT (qN (refd (by rw [← hgo]; exact hr)) H4 R5.rep.ex)
      | false =>
        rw [if_neg (by rw [hr]; exact Bool.false_ne_true)] at hgo
        exact iteF ⟨_, _, m1 + 100, rfl, R4', by omega, hgo, hr⟩
    · rintro σ H2 ⟨y0, st, m1, rfl, R2, hm1, hgo, hrf⟩
      rw [List.length_map] at hm1 hgo
      rw [List.drop_length] at hgo
      have hgo : st = lineF g line rs0 := hgo
      subst hgo
      have R2' := R2
      obtain ⟨dx2, dT, dK, dL, ap, dG, pL, ts, ps, c, R⟩ := R2
      obtain ⟨xs, hx, lx⟩ := R.pL_
      refine ⟨_, rfl, x, C, dx2, _, _, rfl, R.ob, T'.cl, T'.awaited, rfl, _, rfl, ?_⟩
      cases haw : (lineF g line rs0).awaited with
      | some n =>
        refine iteT (iteT (qN ?_ H2 R.rep.ex))
        unfold acceptedF
        rw [haw]
        simp
      | none =>
        refine iteF ?_
        refine ⟨_, rfl, x, C, dx2, _, _, rfl, R.ob, T'.cl, T'.places, rfl, _, rfl, x, C, dx2, _, _, rfl, R.ob, T'.cl, T'.placed, rfl, pL, _, rfl, .inl (sq_of hx), ap, g.pls, (lineF g line rs0).placed, by rw [lx]; rfl, R.pl.mono R.rep.ex, ok.pl, fun hd H3 e3 => ?_, fun hd p H3 e3 => ?_⟩
        · refine ⟨_, rfl, iteT (qN ?_ H3 (R.rep.ex.trans e3))⟩
          unfold acceptedF
          rw [hd, Bool.and_false]
        · refine ⟨_, rfl, iteF ⟨_, rfl, ?_⟩⟩
          refine qS ?_ x H3 m1 ⟨dx2, dT, dK, dL, ap, dG, pL, ts, ps, c, R.mono e3⟩
          unfold acceptedF
          rw [hd, hrf, haw]
          rfl
abbrev s_lasts : Stmt := top 44
theorem sc_lasts : FnScope ["grammar", "line", "reading"] ["grammar", "line"] (C8.fnScope s_lasts) := C8.fnScope_by (by decide +kernel)
theorem ok_lasts (T' : RdC K C) (F : C8.Def K mg "lasts" s_lasts f fd) (b : Binds K fd ["grammar", "line"] []) (B : Blt mg) (C_need_grammar : C8.Cal P w K mg base 5 "need_grammar" (spNeedGr K) []) (C_need_line : C8.Cal P w K mg base 3 "need_line" (spNeedLine K) [])
    (C_reading_of : C8.Cal P w K mg base 5 "reading_of" (spReadingOf K C) []) : C8.Cal P w K mg base 6 "lasts" (spLasts K) [] :=
  C8.cal0 F b .nil sc_lasts (fun vs H Q E h => h.1) fun cdv A outer s H vs Q E hr h => by
    have nd := sc_lasts.nd
    obtain ⟨_, v, ⟨g, a, b', line, rfl, ha, ok, hb, l80, hw, rfl⟩, q⟩ := h
    refine ⟨_, (pss_cons (ps_expr (C8.pe_c C_need_grammar hr (by decide) rfl (pa_cons (pv 0) pa_nil)))
      (pss_cons (ps_expr (C8.pe_c C_need_line hr (by decide) rfl (pa_cons (pv 1) pa_nil)))
      (pss_cons (ps_set (i := 2) nd rfl (by first | exact Or.inl rfl | exact Or.inr rfl) (C8.pe_c C_reading_of hr (by decide) rfl (pa_cons (pv 0) (pa_cons (pv 1) pa_nil))))
      (pss_one (ps_ret (pe_and (pe_cmp (pc_notN (pv 2)) rfl) (pe_one (pe_fld (pv 2) rfl)))))))), ?_⟩
    refine ⟨_, rfl, rfl, _, ⟨a, g, rfl, ha, ok, rfl⟩, fun H1 e1 => ?_⟩
    refine ⟨_, rfl, rfl, _, ⟨b', line, rfl, ex_t e1 hb, l80, hw, rfl⟩, fun H2 e2 => ?_⟩
    have e12 := e1.trans e2
    have z := q
    unfold lastsF at z
    refine ⟨_, rfl, _, rfl, g, a, b', line, rfl, ha.mono e12, ok, ex_t e12 hb, l80, fun l hl => ?_, fun hac H3 e3 => ?_, fun hac me H3 m R => ?_⟩
    · have := hw l hl
      unfold wordOk at this
      exact of_decide_eq_true (Bool.and_eq_true_iff.mp this).1
    · rw [hac, Bool.false_and] at z
      exact ⟨_, rfl, _, rfl, iteF (z H3 (e12.trans e3))⟩
    · rw [hac, Bool.true_and] at z
      obtain ⟨dx, dT, dK, dL, ap, dG, pL, ts, ps, c, R⟩ := R
      exact ⟨_, rfl, _, rfl, iteT ⟨_, rfl, me, C, dx, _, _, rfl, R.ob, T'.cl, T'.lasting, rfl, z H3 (e12.trans R.rep.ex)⟩⟩
end
end K9

set_option Elab.async false
set_option maxRecDepth 100000
set_option maxHeartbeats 4000000
namespace K9
open PySem PySem.Spec PyProof.Rows L2 SX Evl KL
section
variable {P : Program} {w : World} {K : PySem.W.Frag} {mg : Str → Option Value} {base : Heap} {f : Addr} {fd : FuncData} {aK aA aV aL C : Addr}
abbrev s_law_rows : Stmt := top 49
theorem sc_law_rows : FnScope ["one", "other", "short", "value", "name", "c", "d", "rows"] ["one", "other", "short", "value"] (C8.fnScope s_law_rows) := C8.fnScope_by (by decide +kernel)
theorem ok_rows (F : C8.Def K mg "_law_rows" s_law_rows f fd) (b : Binds K fd ["one", "other", "short", "value"] []) (B : Blt mg) : C8.Cal P w K mg base 1 "_law_rows" (spRows K) [] :=
  C8.cal0 F b .nil sc_law_rows (fun vs H Q E h => by obtain ⟨_, _, _, _, _, _, _, _, _, _, rfl, _⟩ := h; rfl) fun cdv A outer s H vs Q E hr h => by
    have nd := sc_law_rows.nd
    obtain ⟨a1, a2, nm, c, d, sh, vl, zz, k1, k2, rfl, t1, t2, ln, lc, ld, ls, lv, lz, q⟩ := h
    refine ⟨_, (pss_cons (L2.ps_par3 (i := 4) (j := 5) (l := 6) rfl nd rfl rfl rfl (by decide) (by decide) (by decide) rfl rfl rfl (pa_cons (pe_op op_add_str pe_str (pe_ix ix_tup (pv 0) pe_int (fun _ _ => rfl))) (pa_cons (pe_ix ix_tup (pv 0) pe_int (fun _ _ => rfl)) (pa_cons (pe_ix ix_tup (pv 1) pe_int (fun _ _ => rfl)) pa_nil))) (by rfl))
      (pss_cons (ps_set (i := 7) nd rfl (by first | exact Or.inl rfl | exact Or.inr rfl) (pe_lst (pa_cons (pe_tup (pa_cons (pe_tup (pa_cons (pv 4) (pa_cons pe_str pa_nil))) (pa_cons pe_bl (pa_cons pe_bl (pa_cons pe_bl (pa_cons pe_bl pa_nil)))))) (pa_cons (pe_tup (pa_cons (pe_tup (pa_cons (pe_op op_add_str pe_str (pv 2)) (pa_cons (pv 3) pa_nil))) (pa_cons pe_bl (pa_cons pe_bl (pa_cons pe_bl (pa_cons pe_bl pa_nil)))))) pa_nil))))
      (pss_cons (ps_set (i := 7) nd rfl (by first | exact Or.inl rfl | exact Or.inr rfl) (pe_op op_cat (pv 7) (pe_lst (pa_cons (pe_tup (pa_cons (pe_tup (pa_cons (pe_op op_add_str (pe_op op_add_str (pv 4) pe_str) (pv 3)) pa_nil)) (pa_cons pe_bl (pa_cons pe_bl (pa_cons pe_bl (pa_cons pe_bl pa_nil)))))) (pa_cons (pe_tup (pa_cons (pe_tup (pa_cons (pe_op op_add_str (pe_op op_add_str pe_str (pv 2)) pe_str) pa_nil)) (pa_cons pe_bl (pa_cons pe_bl (pa_cons pe_bl (pa_cons pe_bl pa_nil)))))) pa_nil)))))
      (pss_cons (ps_set (i := 7) nd rfl (by first | exact Or.inl rfl | exact Or.inr rfl) (pe_op op_cat (pv 7) (pe_lst (pa_cons (pe_tup (pa_cons (pe_tup (pa_cons (pe_op op_add_str (pe_op op_add_str pe_str (pv 5)) pe_str) pa_nil)) (pa_cons pe_bl (pa_cons pe_bl (pa_cons pe_bl (pa_cons pe_bl pa_nil)))))) (pa_cons (pe_tup (pa_cons (pe_tup (pa_cons (pe_op op_add_str (pe_op op_add_str pe_str (pv 6)) (pv 6)) pa_nil)) (pa_cons pe_bl (pa_cons pe_bl (pa_cons pe_bl (pa_cons pe_bl pa_nil)))))) pa_nil)))))
      (pss_cons (ps_set (i := 7) nd rfl (by first | exact Or.inl rfl | exact Or.inr rfl) (pe_op op_cat (pv 7) (pe_lst (pa_cons (pe_tup (pa_cons (pe_tup (pa_cons (pe_op op_add_str (pe_op op_add_str pe_str (pv 6)) (pv 5)) (pa_cons pe_str pa_nil))) (pa_cons pe_bl (pa_cons pe_bl (pa_cons pe_bl (pa_cons pe_bl pa_nil)))))) (pa_cons (pe_tup (pa_cons (pe_tup (pa_cons pe_str (pa_cons pe_str pa_nil))) (pa_cons pe_bl (pa_cons pe_bl (pa_cons pe_bl (pa_cons pe_bl pa_nil)))))) pa_nil)))))
      (pss_cons (ps_set (i := 7) nd rfl (by first | exact Or.inl rfl | exact Or.inr rfl) (pe_op op_cat (pv 7) (pe_lst (pa_cons (pe_tup (pa_cons (pe_tup (pa_cons pe_str pa_nil)) (pa_cons pe_bl (pa_cons pe_bl (pa_cons pe_bl (pa_cons pe_bl pa_nil)))))) (pa_cons (pe_tup (pa_cons (pe_tup (pa_cons pe_str (pa_cons pe_str pa_nil))) (pa_cons pe_bl (pa_cons pe_bl (pa_cons pe_bl (pa_cons pe_bl pa_nil)))))) pa_nil)))))
      (pss_cons (ps_set (i := 7) nd rfl (by first | exact Or.inl rfl | exact Or.inr rfl) (pe_op op_cat (pv 7) (pe_lst (pa_cons (pe_tup (pa_cons (pe_tup (pa_cons pe_str pa_nil)) (pa_cons pe_bl (pa_cons pe_bl (pa_cons pe_bl (pa_cons pe_bl pa_nil)))))) (pa_cons (pe_tup (pa_cons (pe_tup (pa_cons pe_str pa_nil)) (pa_cons pe_bl (pa_cons pe_bl (pa_cons pe_bl (pa_cons pe_bl pa_nil)))))) (pa_cons (pe_tup (pa_cons (pe_tup pa_nil) (pa_cons pe_bl (pa_cons pe_bl (pa_cons pe_bl (pa_cons pe_bl pa_nil)))))) pa_nil))))))
      (pss_cons (ps_set (i := 7) nd rfl (by first | exact Or.inl rfl | exact Or.inr rfl) (pe_op op_cat (pv 7) (pe_lst (pa_cons (pe_tup (pa_cons (pe_tup (pa_cons pe_str (pa_cons (pe_op op_add_str pe_str (pv 2)) pa_nil))) (pa_cons pe_bl (pa_cons pe_bl (pa_cons pe_bl (pa_cons pe_bl pa_nil)))))) (pa_cons (pe_tup (pa_cons (pe_tup (pa_cons (pv 4) (pa_cons (pe_op op_add_str pe_str (pv 2)) pa_nil))) (pa_cons pe_bl (pa_cons pe_bl (pa_cons pe_bl (pa_cons pe_bl pa_nil)))))) pa_nil)))))
      (pss_cons (ps_set (i := 7) nd rfl (by first | exact Or.inl rfl | exact Or.inr rfl) (pe_op op_cat (pv 7) (pe_lst (pa_cons (pe_tup (pa_cons (pe_tup (pa_cons (pv 4) (pa_cons pe_str (pa_cons pe_str pa_nil)))) (pa_cons pe_bl (pa_cons pe_bl (pa_cons pe_bl (pa_cons pe_bl pa_nil)))))) (pa_cons (pe_tup (pa_cons (pe_tup (pa_cons (pv 4) pa_nil)) (pa_cons pe_bl (pa_cons pe_bl (pa_cons pe_bl (pa_cons pe_bl pa_nil)))))) pa_nil)))))
      (pss_cons (ps_set (i := 7) nd rfl (by first | exact Or.inl rfl | exact Or.inr rfl) (pe_op op_cat (pv 7) (pe_lst (pa_cons (pe_tup (pa_cons (pe_tup (pa_cons pe_str (pa_cons (pe_op op_add_str (pe_op op_add_str pe_str (pv 2)) pe_str) pa_nil))) (pa_cons pe_bl (pa_cons pe_bl (pa_cons pe_bl (pa_cons pe_bl pa_nil)))))) (pa_cons (pe_tup (pa_cons (pe_tup (pa_cons pe_str (pa_cons (pe_op op_add_str (pv 4) pe_str) pa_nil))) (pa_cons pe_bl (pa_cons pe_bl (pa_cons pe_bl (pa_cons pe_bl pa_nil)))))) pa_nil)))))
      (pss_cons (ps_set (i := 7) nd rfl (by first | exact Or.inl rfl | exact Or.inr rfl) (pe_op op_cat (pv 7) (pe_lst (pa_cons (pe_tup (pa_cons (pe_tup (pa_cons (pe_op op_add_str (pe_op op_add_str (pe_op op_add_str pe_str (pv 5)) pe_str) (pv 2)) pa_nil)) (pa_cons pe_bl (pa_cons pe_bl (pa_cons pe_bl (pa_cons pe_bl pa_nil)))))) (pa_cons (pe_tup (pa_cons (pe_tup (pa_cons (pe_op op_add_str pe_str (pe_ix ix_tup (pv 1) pe_int (fun _ _ => rfl))) pa_nil)) (pa_cons pe_bl (pa_cons pe_bl (pa_cons pe_bl (pa_cons pe_bl pa_nil)))))) pa_nil)))))
      (pss_cons (ps_set (i := 7) nd rfl (by first | exact Or.inl rfl | exact Or.inr rfl) (pe_op op_cat (pv 7) (pe_lst (pa_cons (pe_tup (pa_cons (pe_tup (pa_cons (pv 4) (pa_cons (pv 3) (pa_cons (pe_op op_add_str pe_str (pv 2)) (pa_cons (pv 3) pa_nil))))) (pa_cons pe_bl (pa_cons pe_bl (pa_cons pe_bl (pa_cons pe_bl pa_nil)))))) pa_nil))))
      (pss_cons (ps_set (i := 7) nd rfl (by first | exact Or.inl rfl | exact Or.inr rfl) (pe_op op_cat (pv 7) (pe_lst (pa_cons (pe_tup (pa_cons (pe_tup (pa_cons pe_str pa_nil)) (pa_cons pe_bl (pa_cons pe_bl (pa_cons pe_bl (pa_cons pe_bl pa_nil)))))) (pa_cons (pe_tup (pa_cons (pe_tup (pa_cons (pe_op op_add_str (pe_op op_add_str pe_str (pv 5)) (pv 5)) (pa_cons (pe_op op_add_str pe_str (pv 6)) pa_nil))) (pa_cons pe_bl (pa_cons pe_bl (pa_cons pe_bl (pa_cons pe_bl pa_nil)))))) pa_nil)))))
      (pss_one (ps_ret (pe_op op_cat (pv 7) (pe_lst (pa_cons (pe_tup (pa_cons (pe_tup (pa_cons pe_str (pa_cons pe_str (pa_cons (pe_op op_add_str pe_str (pv 3)) pa_nil)))) (pa_cons pe_bl (pa_cons pe_bl (pa_cons pe_bl (pa_cons pe_bl pa_nil)))))) (pa_cons (pe_tup (pa_cons (pe_tup (pa_cons (pe_op op_add_str pe_str (pv 6)) (pa_cons pe_str (pa_cons pe_str pa_nil)))) (pa_cons pe_bl (pa_cons pe_bl (pa_cons pe_bl (pa_cons pe_bl pa_nil)))))) pa_nil))))))))))))))))))), ?_⟩
    refine ⟨_, rfl, a1, _, 0, _, rfl, rfl, t1, atI_nat (j := 0) rfl, _, _, rfl, rfl, by rw [lit_dd, S_len, S_len]; exact sz_of (by show 2 + nm.length ≤ 100000; omega), _, rfl, a1, _, 1, _, rfl, rfl, t1, atI_nat (j := 1) rfl, _, rfl, a2, _, 1, _, rfl, rfl, t2, atI_nat (j := 1) rfl, _, _, _, rfl, ?_⟩
    rw [lit_dd, S_cat]
    obtain ⟨nm2, hnm2⟩ : ∃ nm2, nm2 = [45, 45] ++ nm := ⟨_, rfl⟩
    rw [← hnm2] at q ⊢
    have ln2 : nm2.length ≤ 22 := by rw [hnm2, List.length_append]; show 2 + nm.length ≤ 22; omega
    dsimp only
    refine seq_rows (K := K) (rs := rowsU0 nm2 c d sh vl zz) (fun R => [some (.ref a1), some (.ref a2), some (ss sh), some (ss vl), some (ss nm2), some (ss c), some (ss d), some (.ref R)]) ?_ (fun R0 G0 f0 r0 => ?_) (fun _ => rfl)
    · exact (rl_lst (rs_cons (ev_row (r := (([nm2, [45, 53]], [true, true, true, true]))) (ea_cons (ev_var rfl) (ea_cons (ev_lit (by decide +kernel)) ea_nil)) (ea_cons ev_c (ea_cons ev_c (ea_cons ev_c (ea_cons ev_c ea_nil)))) (by show 2 ≤ 100; decide))
        (rs_cons (ev_row (r := (([([45, 45] ++ sh), vl], [false, false, false, false]))) (ea_cons (ev_cat (ev_lit (by decide +kernel)) (ev_var rfl) (by simp only [List.length_append, List.length_cons, List.length_nil]; omega)) (ea_cons (ev_var rfl) ea_nil)) (ea_cons ev_c (ea_cons ev_c (ea_cons ev_c (ea_cons ev_c ea_nil)))) (by show 2 ≤ 100; decide))
        rs_nil)) (by show 2 ≤ 100; decide))
    have y0 : Ex H G0 := f0
    have hOt := ex_t y0 t2
    refine seq_rows (K := K) (rs := rowsU1 nm2 c d sh vl zz) (fun R => [some (.ref a1), some (.ref a2), some (ss sh), some (ss vl), some (ss nm2), some (ss c), some (ss d), some (.ref R)]) ?_ (fun R1 G1 f1 r1 => ?_) (fun _ => rfl)
    · exact rl_cat (rs := rowsU0 nm2 c d sh vl zz) (rs2 := rowsP1 nm2 c d sh vl zz) (rl_var rfl r0) (rl_lst (rs_cons (ev_row (r := (([((nm2 ++ [61]) ++ vl)], [true, true, true, true]))) (ea_cons (ev_cat (ev_cat (ev_var rfl) (ev_lit (by decide +kernel)) (by simp only [List.length_append, List.length_cons, List.length_nil]; omega)) (ev_var rfl) (by simp only [List.length_append, List.length_cons, List.length_nil]; omega)) ea_nil) (ea_cons ev_c (ea_cons ev_c (ea_cons ev_c (ea_cons ev_c ea_nil)))) (by show 1 ≤ 100; decide))
        (rs_cons (ev_row (r := (([(([45, 45] ++ sh) ++ [61])], [false, false, false, false]))) (ea_cons (ev_cat (ev_cat (ev_lit (by decide +kernel)) (ev_var rfl) (by simp only [List.length_append, List.length_cons, List.length_nil]; omega)) (ev_lit (by decide +kernel)) (by simp only [List.length_append, List.length_cons, List.length_nil]; omega)) ea_nil) (ea_cons ev_c (ea_cons ev_c (ea_cons ev_c (ea_cons ev_c ea_nil)))) (by show 1 ≤ 100; decide))
        rs_nil)) (by show 2 ≤ 100; decide)) (by rw [lU0, lP1]; decide)
    have y1 : Ex H G1 := y0.trans f1
    have hOt := ex_t y1 t2
    refine seq_rows (K := K) (rs := rowsU2 nm2 c d sh vl zz) (fun R => [some (.ref a1), some (.ref a2), some (ss sh), some (ss vl), some (ss nm2), some (ss c), some (ss d), some (.ref R)]) ?_ (fun R2 G2 f2 r2 => ?_) (fun _ => rfl)
    · exact rl_cat (rs := rowsU1 nm2 c d sh vl zz) (rs2 := rowsP2 nm2 c d sh vl zz) (rl_var rfl r1) (rl_lst (rs_cons (ev_row (r := (([(([45] ++ c) ++ [118])], [true, true, true, true]))) (ea_cons (ev_cat (ev_cat (ev_lit (by decide +kernel)) (ev_var rfl) (by simp only [List.length_append, List.length_cons, List.length_nil]; omega)) (ev_lit (by decide +kernel)) (by simp only [List.length_append, List.length_cons, List.length_nil]; omega)) ea_nil) (ea_cons ev_c (ea_cons ev_c (ea_cons ev_c (ea_cons ev_c ea_nil)))) (by show 1 ≤ 100; decide))
        (rs_cons (ev_row (r := (([(([45] ++ d) ++ d)], [true, true, true, true]))) (ea_cons (ev_cat (ev_cat (ev_lit (by decide +kernel)) (ev_var rfl) (by simp only [List.length_append, List.length_cons, List.length_nil]; omega)) (ev_var rfl) (by simp only [List.length_append, List.length_cons, List.length_nil]; omega)) ea_nil) (ea_cons ev_c (ea_cons ev_c (ea_cons ev_c (ea_cons ev_c ea_nil)))) (by show 1 ≤ 100; decide))
        rs_nil)) (by show 2 ≤ 100; decide)) (by rw [lU1, lP2]; decide)
    have y2 : Ex H G2 := y1.trans f2
    have hOt := ex_t y2 t2
    refine seq_rows (K := K) (rs := rowsU3 nm2 c d sh vl zz) (fun R => [some (.ref a1), some (.ref a2), some (ss sh), some (ss vl), some (ss nm2), some (ss c), some (ss d), some (.ref R)]) ?_ (fun R3 G3 f3 r3 => ?_) (fun _ => rfl)
    · exact rl_cat (rs := rowsU2 nm2 c d sh vl zz) (rs2 := rowsP3 nm2 c d sh vl zz) (rl_var rfl r2) (rl_lst (rs_cons (ev_row (r := (([(([45] ++ d) ++ c), [45, 53]], [true, true, true, true]))) (ea_cons (ev_cat (ev_cat (ev_lit (by decide +kernel)) (ev_var rfl) (by simp only [List.length_append, List.length_cons, List.length_nil]; omega)) (ev_var rfl) (by simp only [List.length_append, List.length_cons, List.length_nil]; omega)) (ea_cons (ev_lit (by decide +kernel)) ea_nil)) (ea_cons ev_c (ea_cons ev_c (ea_cons ev_c (ea_cons ev_c ea_nil)))) (by show 2 ≤ 100; decide))
        (rs_cons (ev_row (r := (([[119], [45, 53]], [false, true, false, false]))) (ea_cons (ev_lit (by decide +kernel)) (ea_cons (ev_lit (by decide +kernel)) ea_nil)) (ea_cons ev_c (ea_cons ev_c (ea_cons ev_c (ea_cons ev_c ea_nil)))) (by show 2 ≤ 100; decide))
        rs_nil)) (by show 2 ≤ 100; decide)) (by rw [lU2, lP3]; decide)
    have y3 : Ex H G3 := y2.trans f3
    have hOt := ex_t y3 t2
    refine seq_rows (K := K) (rs := rowsU4 nm2 c d sh vl zz) (fun R => [some (.ref a1), some (.ref a2), some (ss sh), some (ss vl), some (ss nm2), some (ss c), some (ss d), some (.ref R)]) ?_ (fun R4 G4 f4 r4 => ?_) (fun _ => rfl)
    · exact rl_cat (rs := rowsU3 nm2 c d sh vl zz) (rs2 := rowsP4 nm2 c d sh vl zz) (rl_var rfl r3) (rl_lst (rs_cons (ev_row (r := (([[45, 53]], [false, false, false, false]))) (ea_cons (ev_lit (by decide +kernel)) ea_nil) (ea_cons ev_c (ea_cons ev_c (ea_cons ev_c (ea_cons ev_c ea_nil)))) (by show 1 ≤ 100; decide))
        (rs_cons (ev_row (r := (([[45, 45], [45, 53]], [true, true, true, true]))) (ea_cons (ev_lit (by decide +kernel)) (ea_cons (ev_lit (by decide +kernel)) ea_nil)) (ea_cons ev_c (ea_cons ev_c (ea_cons ev_c (ea_cons ev_c ea_nil)))) (by show 2 ≤ 100; decide))
        rs_nil)) (by show 2 ≤ 100; decide)) (by rw [lU3, lP4]; decide)
    have y4 : Ex H G4 := y3.trans f4
    have hOt := ex_t y4 t2
    refine seq_rows (K := K) (rs := rowsU5 nm2 c d sh vl zz) (fun R => [some (.ref a1), some (.ref a2), some (ss sh), some (ss vl), some (ss nm2), some (ss c), some (ss d), some (.ref R)]) ?_ (fun R5 G5 f5 r5 => ?_) (fun _ => rfl)
    · exact rl_cat (rs := rowsU4 nm2 c d sh vl zz) (rs2 := rowsP5 nm2 c d sh vl zz) (rl_var rfl r4) (rl_lst (rs_cons (ev_row (r := (([[45]], [true, true, true, true]))) (ea_cons (ev_lit (by decide +kernel)) ea_nil) (ea_cons ev_c (ea_cons ev_c (ea_cons ev_c (ea_cons ev_c ea_nil)))) (by show 1 ≤ 100; decide))
        (rs_cons (ev_row (r := (([[]], [true, true, true, true]))) (ea_cons (ev_lit (by decide +kernel)) ea_nil) (ea_cons ev_c (ea_cons ev_c (ea_cons ev_c (ea_cons ev_c ea_nil)))) (by show 1 ≤ 100; decide))
        (rs_cons (ev_row (r := (([], [true, true, true, true]))) ea_nil (ea_cons ev_c (ea_cons ev_c (ea_cons ev_c (ea_cons ev_c ea_nil)))) (by show 0 ≤ 100; decide))
        rs_nil))) (by show 3 ≤ 100; decide)) (by rw [lU4, lP5]; decide)
    have y5 : Ex H G5 := y4.trans f5
    have hOt := ex_t y5 t2
    refine seq_rows (K := K) (rs := rowsU6 nm2 c d sh vl zz) (fun R => [some (.ref a1), some (.ref a2), some (ss sh), some (ss vl), some (ss nm2), some (ss c), some (ss d), some (.ref R)]) ?_ (fun R6 G6 f6 r6 => ?_) (fun _ => rfl)
    · exact rl_cat (rs := rowsU5 nm2 c d sh vl zz) (rs2 := rowsP6 nm2 c d sh vl zz) (rl_var rfl r5) (rl_lst (rs_cons (ev_row (r := (([[45, 45], ([45, 45] ++ sh)], [true, true, true, true]))) (ea_cons (ev_lit (by decide +kernel)) (ea_cons (ev_cat (ev_lit (by decide +kernel)) (ev_var rfl) (by simp only [List.length_append, List.length_cons, List.length_nil]; omega)) ea_nil)) (ea_cons ev_c (ea_cons ev_c (ea_cons ev_c (ea_cons ev_c ea_nil)))) (by show 2 ≤ 100; decide))
        (rs_cons (ev_row (r := (([nm2, ([45, 45] ++ sh)], [true, true, true, true]))) (ea_cons (ev_var rfl) (ea_cons (ev_cat (ev_lit (by decide +kernel)) (ev_var rfl) (by simp only [List.length_append, List.length_cons, List.length_nil]; omega)) ea_nil)) (ea_cons ev_c (ea_cons ev_c (ea_cons ev_c (ea_cons ev_c ea_nil)))) (by show 2 ≤ 100; decide))
        rs_nil)) (by show 2 ≤ 100; decide)) (by rw [lU5, lP6]; decide)
    have y6 : Ex H G6 := y5.trans f6
    have hOt := ex_t y6 t2
    refine seq_rows (K := K) (rs := rowsU7 nm2 c d sh vl zz) (fun R => [some (.ref a1), some (.ref a2), some (ss sh), some (ss vl), some (ss nm2), some (ss c), some (ss d), some (.ref R)]) ?_ (fun R7 G7 f7 r7 => ?_) (fun _ => rfl)
    · exact rl_cat (rs := rowsU6 nm2 c d sh vl zz) (rs2 := rowsP7 nm2 c d sh vl zz) (rl_var rfl r6) (rl_lst (rs_cons (ev_row (r := (([nm2, [45, 45], [45, 53]], [false, false, false, false]))) (ea_cons (ev_var rfl) (ea_cons (ev_lit (by decide +kernel)) (ea_cons (ev_lit (by decide +kernel)) ea_nil))) (ea_cons ev_c (ea_cons ev_c (ea_cons ev_c (ea_cons ev_c ea_nil)))) (by show 3 ≤ 100; decide))
        (rs_cons (ev_row (r := (([nm2], [false, false, false, false]))) (ea_cons (ev_var rfl) ea_nil) (ea_cons ev_c (ea_cons ev_c (ea_cons ev_c (ea_cons ev_c ea_nil)))) (by show 1 ≤ 100; decide))
        rs_nil)) (by show 2 ≤ 100; decide)) (by rw [lU6, lP7]; decide)
    have y7 : Ex H G7 := y6.trans f7
    have hOt := ex_t y7 t2
    refine seq_rows (K := K) (rs := rowsU8 nm2 c d sh vl zz) (fun R => [some (.ref a1), some (.ref a2), some (ss sh), some (ss vl), some (ss nm2), some (ss c), some (ss d), some (.ref R)]) ?_ (fun R8 G8 f8 r8 => ?_) (fun _ => rfl)
    · exact rl_cat (rs := rowsU7 nm2 c d sh vl zz) (rs2 := rowsP8 nm2 c d sh vl zz) (rl_var rfl r7) (rl_lst (rs_cons (ev_row (r := (([[119], (([45, 45] ++ sh) ++ [61])], [false, true, false, false]))) (ea_cons (ev_lit (by decide +kernel)) (ea_cons (ev_cat (ev_cat (ev_lit (by decide +kernel)) (ev_var rfl) (by simp only [List.length_append, List.length_cons, List.length_nil]; omega)) (ev_lit (by decide +kernel)) (by simp only [List.length_append, List.length_cons, List.length_nil]; omega)) ea_nil)) (ea_cons ev_c (ea_cons ev_c (ea_cons ev_c (ea_cons ev_c ea_nil)))) (by show 2 ≤ 100; decide))
        (rs_cons (ev_row (r := (([[119], (nm2 ++ [61])], [true, true, true, true]))) (ea_cons (ev_lit (by decide +kernel)) (ea_cons (ev_cat (ev_var rfl) (ev_lit (by decide +kernel)) (by simp only [List.length_append, List.length_cons, List.length_nil]; omega)) ea_nil)) (ea_cons ev_c (ea_cons ev_c (ea_cons ev_c (ea_cons ev_c ea_nil)))) (by show 2 ≤ 100; decide))
        rs_nil)) (by show 2 ≤ 100; decide)) (by rw [lU7, lP8]; decide)
    have y8 : Ex H G8 := y7.trans f8
    have hOt := ex_t y8 t2
    refine seq_rows (K := K) (rs := rowsU9 nm2 c d sh vl zz) (fun R => [some (.ref a1), some (.ref a2), some (ss sh), some (ss vl), some (ss nm2), some (ss c), some (ss d), some (.ref R)]) ?_ (fun R9 G9 f9 r9 => ?_) (fun _ => rfl)
    · exact rl_cat (rs := rowsU8 nm2 c d sh vl zz) (rs2 := rowsP9 nm2 c d sh vl zz) (rl_var rfl r8) (rl_lst (rs_cons (ev_row (r := (([((([45] ++ c) ++ [45, 45]) ++ sh)], [true, true, true, true]))) (ea_cons (ev_cat (ev_cat (ev_cat (ev_lit (by decide +kernel)) (ev_var rfl) (by simp only [List.length_append, List.length_cons, List.length_nil]; omega)) (ev_lit (by decide +kernel)) (by simp only [List.length_append, List.length_cons, List.length_nil]; omega)) (ev_var rfl) (by simp only [List.length_append, List.length_cons, List.length_nil]; omega)) ea_nil) (ea_cons ev_c (ea_cons ev_c (ea_cons ev_c (ea_cons ev_c ea_nil)))) (by show 1 ≤ 100; decide))
        (rs_cons (ev_row (r := (([([45, 45] ++ zz)], [true, true, true, true]))) (ea_cons (ev_cat (ev_lit (by decide +kernel)) (ev_is (ev_op (ev_var rfl) ev_c (rv_ixT hOt (atI_nat (j := 0) rfl))) rfl) (by simp only [List.length_append, List.length_cons, List.length_nil]; omega)) ea_nil) (ea_cons ev_c (ea_cons ev_c (ea_cons ev_c (ea_cons ev_c ea_nil)))) (by show 1 ≤ 100; decide))
        rs_nil)) (by show 2 ≤ 100; decide)) (by rw [lU8, lP9]; decide)
    have y9 : Ex H G9 := y8.trans f9
    have hOt := ex_t y9 t2
    refine seq_rows (K := K) (rs := rowsU10 nm2 c d sh vl zz) (fun R => [some (.ref a1), some (.ref a2), some (ss sh), some (ss vl), some (ss nm2), some (ss c), some (ss d), some (.ref R)]) ?_ (fun R10 G10 f10 r10 => ?_) (fun _ => rfl)
    · exact rl_cat (rs := rowsU9 nm2 c d sh vl zz) (rs2 := rowsP10 nm2 c d sh vl zz) (rl_var rfl r9) (rl_lst (rs_cons (ev_row (r := (([nm2, vl, ([45, 45] ++ sh), vl], [false, false, false, false]))) (ea_cons (ev_var rfl) (ea_cons (ev_var rfl) (ea_cons (ev_cat (ev_lit (by decide +kernel)) (ev_var rfl) (by simp only [List.length_append, List.length_cons, List.length_nil]; omega)) (ea_cons (ev_var rfl) ea_nil)))) (ea_cons ev_c (ea_cons ev_c (ea_cons ev_c (ea_cons ev_c ea_nil)))) (by show 4 ≤ 100; decide))
        rs_nil) (by show 1 ≤ 100; decide)) (by rw [lU9, lP10]; decide)
    have y10 : Ex H G10 := y9.trans f10
    have hOt := ex_t y10 t2
    refine seq_rows (K := K) (rs := rowsU11 nm2 c d sh vl zz) (fun R => [some (.ref a1), some (.ref a2), some (ss sh), some (ss vl), some (ss nm2), some (ss c), some (ss d), some (.ref R)]) ?_ (fun R11 G11 f11 r11 => ?_) (fun _ => rfl)
    · exact rl_cat (rs := rowsU10 nm2 c d sh vl zz) (rs2 := rowsP11 nm2 c d sh vl zz) (rl_var rfl r10) (rl_lst (rs_cons (ev_row (r := (([[45, 45, 61]], [false, false, false, false]))) (ea_cons (ev_lit (by decide +kernel)) ea_nil) (ea_cons ev_c (ea_cons ev_c (ea_cons ev_c (ea_cons ev_c ea_nil)))) (by show 1 ≤ 100; decide))
        (rs_cons (ev_row (r := (([(([45] ++ c) ++ c), ([45] ++ d)], [true, true, true, true]))) (ea_cons (ev_cat (ev_cat (ev_lit (by decide +kernel)) (ev_var rfl) (by simp only [List.length_append, List.length_cons, List.length_nil]; omega)) (ev_var rfl) (by simp only [List.length_append, List.length_cons, List.length_nil]; omega)) (ea_cons (ev_cat (ev_lit (by decide +kernel)) (ev_var rfl) (by simp only [List.length_append, List.length_cons, List.length_nil]; omega)) ea_nil)) (ea_cons ev_c (ea_cons ev_c (ea_cons ev_c (ea_cons ev_c ea_nil)))) (by show 2 ≤ 100; decide))
        rs_nil)) (by show 2 ≤ 100; decide)) (by rw [lU10, lP11]; decide)
    have y11 : Ex H G11 := y10.trans f11
    have hOt := ex_t y11 t2
    refine ret_rows (K := K) (rs := rowsU12 nm2 c d sh vl zz) ?_ fun R12 G12 f12 r12 => ?_
    · exact rl_cat (rs := rowsU11 nm2 c d sh vl zz) (rs2 := rowsP12 nm2 c d sh vl zz) (rl_var rfl r11) (rl_lst (rs_cons (ev_row (r := (([[45, 45], [45, 45], ([45] ++ vl)], [true, true, true, true]))) (ea_cons (ev_lit (by decide +kernel)) (ea_cons (ev_lit (by decide +kernel)) (ea_cons (ev_cat (ev_lit (by decide +kernel)) (ev_var rfl) (by simp only [List.length_append, List.length_cons, List.length_nil]; omega)) ea_nil))) (ea_cons ev_c (ea_cons ev_c (ea_cons ev_c (ea_cons ev_c ea_nil)))) (by show 3 ≤ 100; decide))
        (rs_cons (ev_row (r := (([([45] ++ d), [45], [46]], [true, true, true, true]))) (ea_cons (ev_cat (ev_lit (by decide +kernel)) (ev_var rfl) (by simp only [List.length_append, List.length_cons, List.length_nil]; omega)) (ea_cons (ev_lit (by decide +kernel)) (ea_cons (ev_lit (by decide +kernel)) ea_nil))) (ea_cons ev_c (ea_cons ev_c (ea_cons ev_c (ea_cons ev_c ea_nil)))) (by show 3 ≤ 100; decide))
        rs_nil)) (by show 2 ≤ 100; decide)) (by rw [lU11, lP12]; decide)
    have y12 : Ex H G12 := y11.trans f12
    have r13 : RowsL K G12 R12 (rowsF nm2 c d sh vl zz) := by unfold rowsF; exact r12
    exact q _ _ y12 r13
end
end K9

set_option Elab.async false
set_option maxRecDepth 100000
set_option maxHeartbeats 4000000
namespace K9
open PySem PySem.Spec PyProof.Rows L2 SX Evl KL
section
variable {P : Program} {w : World} {K : PySem.W.Frag} {mg : Str → Option Value} {base : Heap} {f : Addr} {fd : FuncData} {aK aA aV aL C : Addr}
abbrev s_law : Stmt := top 50
theorem sc_law : FnScope ["script", "state", "letters", "turn", "name", "short", "at", "value", "c", "d", "one", "other", "places", "some", "row", "told", "figure", "kept", "line", "due", "k", "modes"] ["script"] (C8.fnScope s_law) := C8.fnScope_by (by decide +kernel)
theorem ev_row1 {σ : L2.St} {H : Hp} {ta tb : TA} {r : KL.Row} (h1 : EvA ta σ H (r.1.map ss)) (h2 : EvA tb σ H (r.2.map V.bl)) (hz : r.1.length ≤ 100) (hz2 : r.2.length = 1 := by rfl) : EvR K (tTup (tCons (tTup ta) tb)) σ H r := fun H1 e Q q => by
  have key : tTup ta σ H1 (fun x H2 => tb σ H2 fun xs H3 => (x :: xs).length ≤ sizeLine ∧ ∀ p, H3 p = none → Q (.ref p) (upd H3 p (.tup (x :: xs)))) := by
    refine eu_tup h1 (by rw [List.length_map]; omega) H1 e _ fun p H2 _ e2 hp => ?_
    refine h2 H2 (e.trans e2) _ fun H3 e3 => ?_
    refine ⟨sz_of (by simp; omega), fun a ha => ?_⟩
    exact q a _ ((e2.trans e3).trans (Ex.new ha)) ⟨p, st_of upd_same, ex_t (e3.trans (Ex.new ha)) (st_of hp)⟩
  exact key
theorem ta_rows {σ : L2.St} {H : Hp} {te : TE} {rs : List KL.Row} {k : List V → Hp → Prop} (h : EvRL K te σ H rs) (q : ∀ R H2, Ex H H2 → RowsL K H2 R rs → k [.ref R] H2) : tCons te tNil σ H k :=
  h H (Ex.refl _) _ fun R H2 e r => q R H2 e r
theorem tf_rows {σ : L2.St} {H : Hp} {te : TE} {g : TG} {tb : TS} {D : Ends} {rs : List KL.Row} (h : EvRL K te σ H rs) (q : ∀ R H2, Ex H H2 → RowsL K H2 R rs → tFor (fun _ _ Rk => Rk (Itl K R) H2) g tb D σ H2) : tFor (iList K te) g tb D σ H :=
  h H (Ex.refl _) _ fun R H2 e r => by
    obtain ⟨as, r1, _⟩ := id r
    exact ⟨R, rfl, ⟨_, sq_of r1⟩, q R H2 e r⟩
theorem ifF {c : Bool} {A B : Prop} (h : c = false) (b : B) : if c = true then A else B := by
  rw [h]
  exact b
theorem ok_law (F : C8.Def K mg "law" s_law f fd) (b : Binds K fd ["script"] []) (B : Blt mg) (C__law_begin : C8.Cal P w K mg base 1 "_law_begin" (spBegin K) []) (C__law_draw : C8.Cal P w K mg base 2 "_law_draw" spDraw []) (C__law_rows : C8.Cal P w K mg base 1 "_law_rows" (spRows K) [])
    (C_lasts : C8.Cal P w K mg base 6 "lasts" (spLasts K) []) : CalG P w K mg base 7 "law" (spLaw09 K) :=
  calg F b sc_law (fun vs H Q E h => by obtain ⟨_, _, rfl, _⟩ := h; rfl) fun cdv A outer s H vs Q E gd hr h => by
    have nd := sc_law.nd
    have hu := hu_of hr
    obtain ⟨a, ns, rfl, hS, hl, q⟩ := h
    refine ⟨_, (pss_cons (ps_set (i := 1) nd rfl (by first | exact Or.inl rfl | exact Or.inr rfl) (C8.pe_c C__law_begin hr (by decide) rfl (pa_cons (pv 0) pa_nil)))
      (pss_cons (ps_set (i := 2) nd rfl (by first | exact Or.inl rfl | exact Or.inr rfl) pe_str)
      (pss_cons (ps_for PassesOwn.never rfl (pi_range1 (by rfl) B.range_ (pa_cons pe_int pa_nil)) (pg_name (i := 3) nd rfl (by first | exact Or.inl rfl | exact Or.inr rfl)) (pss_cons (ps_set (i := 4) nd rfl (by first | exact Or.inl rfl | exact Or.inr rfl) (pe_join pe_str (pe_lc (own := [("k", 20)]) rfl nd (pi_range1 (by rfl) B.range_ (pa_cons (pe_op op_add pe_int (C8.pe_c C__law_draw hr (by decide) rfl (pa_cons (pv 1) (pa_cons pe_int pa_nil)))) pa_nil)) (blkOk_by (N := ["script", "state", "letters", "turn", "name", "short", "at", "value", "c", "d", "one", "other", "places", "some", "row", "told", "figure", "kept", "line", "due", "k", "modes"]) (sc := C8.fnScope s_law) (by decide +kernel)) (fun _ _ _ _ _ => (pg_name (i := 20) nd rfl (by first | exact Or.inl rfl | exact Or.inr rfl))) (fun _ _ _ _ _ => pts_nil) (fun _ _ _ _ _ => (pe_ix ix_str (pv 2) (C8.pe_c C__law_draw hr (by decide) rfl (pa_cons (pv 1) (pa_cons pe_int pa_nil))) (fun _ _ => rfl))))))
      (pss_cons (ps_set (i := 5) nd rfl (by first | exact Or.inl rfl | exact Or.inr rfl) (pe_slice C8.sl_txt (pv 4) po_none (po_some (pe_op op_add pe_int (C8.pe_c C__law_draw hr (by decide) rfl (pa_cons (pv 1) (pa_cons (pe_op op_sub (pe_callB (id := "len") call_len_str (by rfl) B.len_ (by decide +kernel) (pa_cons (pv 4) pa_nil)) pe_int) pa_nil)))))))
      (pss_cons (ps_par (i := 6) (j := 7) rfl nd rfl rfl (by decide) rfl rfl (pa_cons (C8.pe_c C__law_draw hr (by decide) rfl (pa_cons (pv 1) (pa_cons pe_int pa_nil))) (pa_cons (pe_ix ix_list (pe_lst (pa_cons pe_str (pa_cons pe_str (pa_cons pe_str (pa_cons (pe_op op_add_str pe_str (pv 5)) (pa_cons pe_str pa_nil)))))) (C8.pe_c C__law_draw hr (by decide) rfl (pa_cons (pv 1) (pa_cons pe_int pa_nil))) (fun _ _ => rfl)) pa_nil)) (by rfl))
      (pss_cons (ps_par (i := 8) (j := 9) rfl nd rfl rfl (by decide) rfl rfl (pa_cons (pe_ix ix_str (pv 2) (pv 6) (fun _ _ => rfl)) (pa_cons (pe_ix ix_str (pv 2) (pe_op op_modN (pe_callTy (T := "int") call_int1 (by rfl) B.int_ (by decide +kernel) (pa_cons (pe_op op_add (pe_op op_add (pv 6) pe_int) (C8.pe_c C__law_draw hr (by decide) rfl (pa_cons (pv 1) (pa_cons pe_int pa_nil)))) pa_nil)) pe_int) (fun _ _ => rfl)) pa_nil)) (by rfl))
      (C8.pss_cut (ps_asg (pe_tup (pa_cons (pe_tup (pa_cons (pv 4) (pa_cons (pv 8) (pa_cons pe_str pa_nil)))) (pa_cons (pe_tup (pa_cons pe_str (pa_cons (pv 9) (pa_cons pe_str pa_nil)))) (pa_cons (pe_tup (pa_cons (pe_tup (pa_cons pe_str (pa_cons pe_str pa_nil))) pa_nil)) pa_nil)))) (pg_tup rfl (pgs_cons (pg_name (i := 10) nd rfl (by first | exact Or.inl rfl | exact Or.inr rfl)) (pgs_cons (pg_name (i := 11) nd rfl (by first | exact Or.inl rfl | exact Or.inr rfl)) (pgs_cons (pg_name (i := 12) nd rfl (by first | exact Or.inl rfl | exact Or.inr rfl)) pgs_nil)))))
      (pss_cons (ps_set (i := 13) nd rfl (by first | exact Or.inl rfl | exact Or.inr rfl) (pe_lst (pa_cons (pe_tup (pa_cons pe_bl (pa_cons pe_bl (pa_cons pe_bl pa_nil)))) (pa_cons (pe_tup (pa_cons pe_bl (pa_cons pe_bl (pa_cons pe_bl pa_nil)))) (pa_cons (pe_tup (pa_cons pe_bl (pa_cons pe_bl (pa_cons pe_bl pa_nil)))) (pa_cons (pe_tup (pa_cons pe_bl (pa_cons pe_bl (pa_cons pe_bl pa_nil)))) pa_nil))))))
      (C8.pss_cut (ps_for PassesOwn.never rfl (pi_list (C8.pe_c C__law_rows hr (by decide) rfl (pa_cons (pv 10) (pa_cons (pv 11) (pa_cons (pv 5) (pa_cons (pv 7) pa_nil)))))) (pg_name (i := 14) nd rfl (by first | exact Or.inl rfl | exact Or.inr rfl)) (pss_cons (ps_setLc (i := 15) (own := [("modes", 21)]) rfl nd rfl rfl (sw_true rfl rfl rfl (by decide +kernel)) (pi_list (pv 13)) (blkOk_by (N := ["script", "state", "letters", "turn", "name", "short", "at", "value", "c", "d", "one", "other", "places", "some", "row", "told", "figure", "kept", "line", "due", "k", "modes"]) (sc := C8.fnScope s_law) (by decide +kernel)) (fun _ _ _ _ _ => (pg_name (i := 21) nd rfl (by first | exact Or.inl rfl | exact Or.inr rfl))) (fun _ _ _ _ _ => pts_nil) (fun _ _ _ _ _ => (C8.pe_c C_lasts hr (by decide) rfl (pa_cons (pe_tup (pa_cons (pe_tup (pa_cons (pv 10) (pa_cons (pv 11) pa_nil))) (pa_cons (pv 12) (pa_cons (pv 21) pa_nil)))) (pa_cons (pe_ix (r := rIxT K) ix_tup (pv 14) pe_int (fun _ _ => rfl)) pa_nil)))))
      (pss_one (ps_if (pt_cmpR op_ne (pe_callB (id := "repr") (KL.call_rep gd hr) (by rfl) B.repr_ (by decide +kernel) (pa_cons (pv 15) pa_nil)) (pe_callB (id := "repr") (KL.call_rep gd hr) (by rfl) B.repr_ (by decide +kernel) (pa_cons (pe_callTy (T := "list") call_list_of (by rfl) B.list_ (by decide +kernel) (pa_cons (pe_slice sl_tupA (pv 14) (po_some pe_int) po_none) pa_nil)) pa_nil)) (nomark _)) (pss_one (ps_ret pe_bl)) pss_nil))))
      (pss_cons (ps_par (i := 16) (j := 17) rfl nd rfl rfl (by decide) rfl rfl (pa_cons (pe_tup (pa_cons pe_str (pa_cons pe_str (pa_cons pe_str pa_nil)))) (pa_cons (pe_lst (pa_cons (pe_tup (pa_cons (pe_tup (pa_cons pe_str pa_nil)) (pa_cons pe_bl pa_nil))) (pa_cons (pe_tup (pa_cons (pe_tup (pa_cons pe_str (pa_cons pe_str pa_nil))) (pa_cons pe_bl pa_nil))) (pa_cons (pe_tup (pa_cons (pe_tup (pa_cons pe_str pa_nil)) (pa_cons pe_bl pa_nil))) pa_nil)))) pa_nil)) (by rfl))
      (C8.pss_cut (ps_for PassesOwn.never rfl (pi_list (pe_op op_cat (pv 17) (pe_lst (pa_cons (pe_tup (pa_cons (pe_tup (pa_cons pe_str (pa_cons pe_str pa_nil))) (pa_cons pe_bl pa_nil))) (pa_cons (pe_tup (pa_cons (pe_tup (pa_cons pe_str (pa_cons pe_str pa_nil))) (pa_cons pe_bl pa_nil))) (pa_cons (pe_tup (pa_cons (pe_tup (pa_cons pe_str (pa_cons pe_str pa_nil))) (pa_cons pe_bl pa_nil))) pa_nil)))))) (pg_tup rfl (pgs_cons (pg_name (i := 18) nd rfl (by first | exact Or.inl rfl | exact Or.inr rfl)) (pgs_cons (pg_name (i := 19) nd rfl (by first | exact Or.inl rfl | exact Or.inr rfl)) pgs_nil))) (pss_one (ps_if (pt_cmpR op_ne (pe_callB (id := "repr") KL.call_repB (by rfl) B.repr_ (by decide +kernel) (pa_cons (C8.pe_c C_lasts hr (by decide) rfl (pa_cons (pe_tup (pa_cons (pe_tup (pa_cons (pv 10) (pa_cons (pv 11) (pa_cons (pv 16) pa_nil)))) (pa_cons (pv 12) (pa_cons (pe_tup (pa_cons pe_bl (pa_cons pe_bl (pa_cons pe_bl pa_nil)))) pa_nil)))) (pa_cons (pv 18) pa_nil))) pa_nil)) (pe_callB (id := "repr") KL.call_repB (by rfl) B.repr_ (by decide +kernel) (pa_cons (pv 19) pa_nil)) (nomark _)) (pss_one (ps_ret pe_bl)) pss_nil)))
      (pss_one (ps_for PassesOwn.never rfl (pi_list (pe_lst (pa_cons (pe_tup (pa_cons (pe_tup pa_nil) (pa_cons pe_bl pa_nil))) (pa_cons (pe_tup (pa_cons (pe_tup (pa_cons pe_str pa_nil)) (pa_cons pe_bl pa_nil))) (pa_cons (pe_tup (pa_cons (pe_tup (pa_cons pe_str pa_nil)) (pa_cons pe_bl pa_nil))) (pa_cons (pe_tup (pa_cons (pe_tup (pa_cons (pe_op op_add_str pe_str (pv 9)) pa_nil)) (pa_cons pe_bl pa_nil))) pa_nil)))))) (pg_tup rfl (pgs_cons (pg_name (i := 18) nd rfl (by first | exact Or.inl rfl | exact Or.inr rfl)) (pgs_cons (pg_name (i := 19) nd rfl (by first | exact Or.inl rfl | exact Or.inr rfl)) pgs_nil))) (pss_one (ps_if (pt_cmpR op_ne (pe_callB (id := "repr") KL.call_repB (by rfl) B.repr_ (by decide +kernel) (pa_cons (C8.pe_c C_lasts hr (by decide) rfl (pa_cons (pe_tup (pa_cons (pe_tup (pa_cons (pv 10) (pa_cons (pv 11) pa_nil))) (pa_cons (pe_tup pa_nil) (pa_cons (pe_tup (pa_cons pe_bl (pa_cons pe_bl (pa_cons pe_bl pa_nil)))) pa_nil)))) (pa_cons (pv 18) pa_nil))) pa_nil)) (pe_callB (id := "repr") KL.call_repB (by rfl) B.repr_ (by decide +kernel) (pa_cons (pv 19) pa_nil)) (nomark _)) (pss_one (ps_ret pe_bl)) pss_nil))))))))))))))
      (pss_one (ps_ret pe_bl))))), ?_⟩
    refine ⟨_, rfl, a, ns, rfl, hS, hl, fun st dL H1 S1 e1 nst ndL => ?_⟩
    have nd0 : ∀ {H : Hp} {n : Int}, StAt H st dL n → ∀ {p : Addr}, H p = none → p ≠ st ∧ p ≠ dL := fun S p hp => by
      obtain ⟨⟨dC, cs, ls, g1, g2, g3, _⟩, _⟩ := S
      refine And.intro (fun z => ?_) (fun z => ?_)
      · rw [z, g1] at hp
        cases hp
      · rw [z, g3] at hp
        cases hp
    dsimp only
    refine ⟨3, rfl, by decide, by decide, for_it (walk_range (lo := 0) (n := 3)) (fun i σ H => ∃ n x0 x3 x4 x5 x6 x7 x8 x9 x10 x11 x12 x13 x14 x15 x16 x17 x18 x19 x20 x21, σ = [x0, some (.ref st), some (.str lt25), x3, x4, x5, x6, x7, x8, x9, x10, x11, x12, x13, x14, x15, x16, x17, x18, x19, x20, x21] ∧ StAt H st dL n ∧ n ≤ 100 * i)
      ⟨0, _, _, _, _, _, _, _, _, _, _, _, _, _, _, _, _, _, _, _, _, rfl, S1, by decide⟩ (fun _ _ _ _ _ => trivial) ?_ ?_⟩
    · rintro i x σ H2 H3 hi ⟨n, x0, x3, x4, x5, x6, x7, x8, x9, x10, x11, x12, x13, x14, x15, x16, x17, x18, x19, x20, x21, rfl, S2, hn⟩ ⟨rfl, rfl⟩
      -- name
      dsimp only
      refine ⟨⟨_, rfl⟩, _, rfl, st, dL, n, 11, rfl, S2, by omega, by decide, by decide, fun r1 H4 r10 r11 S4 ch4 => ⟨_, _, rfl, rfl, _, rfl, by omega, by omega, fun D hD => ?_⟩⟩
      obtain ⟨m, hm⟩ : ∃ m : Nat, (2 + r1).toNat = m := ⟨_, rfl⟩
      rw [hm]
      obtain ⟨nDs, nDL⟩ := nd0 S4 hD
      refine lc_it (walk_range (lo := 0) (n := m)) (fun j H => ∃ l : List Nat, H D = some (.lst (l.map fun c => ss [c])) ∧ l.length = j ∧ (∀ x ∈ l, 97 ≤ x ∧ x ≤ 121) ∧ StAt H st dL (n + 1 + j))
        ⟨[], upd_same, rfl, fun _ h => absurd h List.not_mem_nil, by simpa using S4.mono (Ex.new hD)⟩ (fun _ _ _ _ => trivial) ?_ ?_
      · rintro j x H5 H6 hj ⟨l, hl1, hl2, hl3, S5⟩ ⟨rfl, rfl⟩
        refine ⟨rfl, ?_⟩
        refine iteT (B := ∃ l : List Nat, H6 D = some (.lst (l.map fun c => ss [c])) ∧ l.length = j + 1 ∧ (∀ x ∈ l, 97 ≤ x ∧ x ≤ 121) ∧ StAt H6 st dL (n + 1 + ((j + 1 : Nat) : Int))) ?_
        refine ⟨_, rfl, _, rfl, st, dL, n + 1 + j, 25, rfl, S5, by omega, by decide, by decide, fun r2 H7 r20 r21 S7 ch7 => ?_⟩
        obtain ⟨x, hx1, hx2⟩ := lt_at r20 r21
        refine ⟨lt25, r2, x, rfl, rfl, sz_of (by decide +kernel), hx1, _, ch7.keep hl1 nDs nDL, small1000 (by rw [List.length_map]; omega), l ++ [x], by rw [upd_same, List.map_append]; rfl, by rw [List.length_append, hl2]; rfl, fun y hy => ?_, ?_⟩
        · rcases List.mem_append.mp hy with z | z
          · exact hl3 y z
          · rw [List.mem_singleton.mp z]; omega
        · have z := S7
          obtain ⟨⟨dC, cs, ls, g1, g2, g3, g4⟩, g5⟩ := z
          rw [show n + 1 + ((j + 1 : Nat) : Int) = n + 1 + (j : Int) + 1 by omega]
          refine ⟨⟨dC, cs, ls, by rw [upd_ne (Ne.symm nDs)]; exact g1, ?_, by rw [upd_ne (Ne.symm nDL)]; exact g3, g4⟩, g5⟩
          rw [upd_ne (lst_ne (ch7.keep hl1 nDs nDL) g2 g4.2.2.1).symm]
          exact g2
      · rintro H5 ⟨nm, hl1, hl2, hl3, S5⟩
        have ln : 2 ≤ nm.length ∧ nm.length ≤ 12 := by omega
        refine ⟨("" : Str), D, nm.map fun c => S [c], rfl, rfl, .inl (sq_of (by rw [hl1, List.map_map]; rfl)), ?_, ?_⟩
        · rw [sum1, lit_nil]
          show nm.length + _ * 0 ≤ _
          omega
        rw [join_S1]
        -- short
        refine ⟨_, rfl, _, rfl, _, rfl, S nm, rfl, len1000 (by omega), _, _, rfl, rfl, st, dL, _, _, rfl, S5, by omega, ?_, ?_, fun r2 H6 r20 r21 S6 ch6 => ?_⟩
        · rw [S_len]; omega
        · rw [S_len]; omega
        refine ⟨_, _, rfl, rfl, _, rfl, _, rfl, len1000 (by omega), ?_⟩
        rw [S_len] at r21
        rw [slice_to (by omega)]
        obtain ⟨k, hk⟩ : ∃ k : Nat, (1 + r2).toNat = k := ⟨_, rfl⟩
        rw [hk]
        obtain ⟨sh, hsh⟩ : ∃ sh, nm.take k = sh := ⟨_, rfl⟩
        rw [hsh]
        have lsh : sh.length ≤ 12 := by rw [← hsh, List.length_take]; omega
        -- at, value
        dsimp only
        refine ⟨_, rfl, st, dL, _, 25, rfl, S6, by omega, by decide, by decide, fun r3 H7 r30 r31 S7 ch7 => ?_⟩
        refine ⟨_, rfl, _, _, rfl, rfl, by rw [lit_dd, S_len, S_len]; exact sz_of (by show 2 + sh.length ≤ 100000; omega), sz_of (by show 5 ≤ 100000; decide), fun p hp => ?_⟩
        rw [lit_dd, S_cat]
        obtain ⟨nps, npL⟩ := nd0 S7 hp
        refine ⟨_, rfl, st, dL, _, 5, rfl, S7.mono (Ex.new hp), by omega, by decide, by decide, fun r4 H8 r40 r41 S8 ch8 => ?_⟩
        have hp8 := ch8.keep upd_same nps npL
        obtain ⟨vl, hat, hvl⟩ : ∃ vl, atI [V.str "v", V.str "", V.str "-5", ss ([45, 45] ++ sh), V.str "a=b"] r4 = some (ss vl) ∧ (vl = [118] ∨ vl = [] ∨ vl = [45, 53] ∨ vl = [45, 45] ++ sh ∨ vl = [97, 61, 98]) := by
          obtain rfl | rfl | rfl | rfl | rfl : r4 = 0 ∨ r4 = 1 ∨ r4 = 2 ∨ r4 = 3 ∨ r4 = 4 := by omega
          · exact ⟨[118], (atI_nat (j := 0) rfl).trans (congrArg some (by decide +kernel)), .inl rfl⟩
          · exact ⟨[], (atI_nat (j := 1) rfl).trans (congrArg some (by decide +kernel)), .inr (.inl rfl)⟩
          · exact ⟨[45, 53], (atI_nat (j := 2) rfl).trans (congrArg some (by decide +kernel)), .inr (.inr (.inl rfl))⟩
          · exact ⟨[45, 45] ++ sh, atI_nat (j := 3) rfl, .inr (.inr (.inr (.inl rfl)))⟩
          · exact ⟨[97, 61, 98], (atI_nat (j := 4) rfl).trans (congrArg some (by decide +kernel)), .inr (.inr (.inr (.inr rfl)))⟩
        refine ⟨p, _, r4, ss vl, rfl, rfl, sq_of hp8, hat, _, _, rfl, ?_⟩
        -- c, d
        obtain ⟨cc, hc1, hc2⟩ := lt_at r30 r31
        dsimp only
        refine ⟨_, rfl, _, rfl, lt25, r3, cc, rfl, rfl, sz_of (by decide +kernel), hc1, _, rfl, _, rfl, _, _, rfl, rfl, _, rfl, st, dL, _, 24, rfl, S8, by omega, by decide, by decide, fun r5 H9 r50 r51 S9 ch9 => ?_⟩
        have z25 : (25 : Int) ≠ 0 := by decide
        refine ⟨_, _, rfl, rfl, .inl ⟨_, rfl, _, _, rfl, rfl, z25, ?_⟩⟩
        have fb := fmod_bounds (r3 + 1 + r5) 25 (by decide)
        obtain ⟨dd, hd1, hd2⟩ := lt_at fb.1 fb.2
        refine ⟨lt25, _, dd, rfl, rfl, sz_of (by decide +kernel), hd1, _, _, rfl, ?_⟩
        have hcd : cc ≠ dd := by
          intro e
          have h1 : (r3 + 1 + r5).fmod 25 = (r3 + 1 + r5) % 25 := Int.fmod_eq_emod_of_nonneg _ (by decide)
          rw [h1] at hd2
          omega
        have good : Good nm sh vl cc dd := ⟨ln.1, ln.2, hl3, ⟨k, by omega, by omega, hsh.symm⟩, by omega, by omega, hcd, hvl⟩
        obtain ⟨n9, hn9⟩ : ∃ n9 : Int, n9 ≤ 100 * ((i + 1 : Nat) : Int) ∧ StAt H9 st dL n9 := ⟨_, by omega, S9⟩
        dsimp only
        refine ⟨Mid K st dL n9, ?_, ?_⟩
        · -- one, other, places
          have sz3 : 3 ≤ sizeLine := by decide
          refine ⟨_, rfl, _, rfl, sz3, fun p1 hp1 => ⟨_, rfl, sz3, fun p2 hp2 => ⟨by show 2 ≤ sizeLine; decide, fun p4 hp4 => ⟨by show 1 ≤ sizeLine; decide, fun p3 hp3 => ⟨sz3, fun p5 hp5 => ?_⟩⟩⟩⟩⟩
          refine ⟨p5, _, rfl, st_of upd_same, rfl, _, _, rfl, _, _, rfl, _, _, rfl, rfl, ?_⟩
          have g1 : Ex H9 (upd H9 p1 _) := Ex.new (o := .tup [ss nm, ss [cc], .str "last"]) hp1
          have g2 := Ex.new (o := HO.tup [V.str "zz", ss [dd], V.str "count"]) hp2
          have g4 := Ex.new (o := HO.tup [V.str "in", V.str "many"]) hp4
          have g3 := Ex.new (o := HO.tup [V.ref p4]) hp3
          have g5 := Ex.new (o := HO.tup [V.ref p1, V.ref p2, V.ref p3]) hp5
          refine ⟨_, _, _, _, _, _, _, _, _, _, _, _, nm, sh, vl, cc, dd, p1, p2, p3, rfl, hn9.2.mono ((((g1.trans g2).trans g4).trans g3).trans g5), ⟨?_, ?_, p4, ?_, ?_⟩, good⟩
          · rw [show ([ss nm, ss [cc], ss kLast] : List V) = [ss nm, ss [cc], .str "last"] by rw [lit_last]]
            exact ex_t (((g2.trans g4).trans g3).trans g5) (st_of upd_same)
          · rw [show ([ss zz, ss [dd], ss kCount] : List V) = [.str "zz", ss [dd], .str "count"] by rw [lit_count, lit_zz]]
            exact ex_t ((g4.trans g3).trans g5) (st_of upd_same)
          · exact ex_t g5 (st_of upd_same)
          · rw [show ([ss [105, 110], ss aMany] : List V) = [.str "in", .str "many"] by rw [lit_many, lit_in]]
            exact ex_t (g3.trans g5) (st_of upd_same)
        · rintro σ1 K1 ⟨y0, y3, y6, y13, y14, y15, y16, y17, y18, y19, y20, y21, nm, sh, vl, c, d, a1, a2, ap, rfl, T1, cx, gd2⟩
          have nl : nm.length ≤ 12 := gd2.n12
          have sz3 : 3 ≤ sizeLine := by decide
          have sz2 : 2 ≤ sizeLine := by decide
          have lsh : sh.length ≤ 12 := by
            obtain ⟨k, _, _, rfl⟩ := gd2.sh_
            rw [List.length_take]
            omega
          have lvl : vl.length ≤ 30 := by
            rcases gd2.vl_ with e | e | e | e | e <;> rw [e]
            · decide
            · decide
            · decide
            · rw [List.length_append]
              show 2 + sh.length ≤ 30
              omega
            · decide
          -- some
          try dsimp only
          refine ⟨sz3, fun m1 hm1 => ⟨sz3, fun m2 hm2 => ⟨sz3, fun m3 hm3 => ⟨sz3, fun m4 hm4 => ⟨by show 4 ≤ sizeLine; decide, fun L hL => ?_⟩⟩⟩⟩⟩
          have z1 := Ex.new (o := HO.tup [V.bl true, V.bl true, V.bl true]) hm1
          have z2 := Ex.new (o := HO.tup [V.bl true, V.bl false, V.bl true]) hm2
          have z3 := Ex.new (o := HO.tup [V.bl true, V.bl true, V.bl false]) hm3
          have z4 := Ex.new (o := HO.tup [V.bl false, V.bl true, V.bl true]) hm4
          have z5 := Ex.new (o := HO.lst [V.ref m1, V.ref m2, V.ref m3, V.ref m4]) hL
          have q1 := (((z2.trans z3).trans z4).trans z5) _ _ (upd_same (a := m1))
          have q2 := ((z3.trans z4).trans z5) _ _ (upd_same (a := m2))
          have q3 := (z4.trans z5) _ _ (upd_same (a := m3))
          have q4 := z5 _ _ (upd_same (a := m4))
          have qL := upd_same (H := upd (upd (upd (upd K1 m1 (.tup [V.bl true, V.bl true, V.bl true])) m2 (.tup [V.bl true, V.bl false, V.bl true])) m3 (.tup [V.bl true, V.bl true, V.bl false])) m4 (.tup [V.bl false, V.bl true, V.bl true])) (a := L) (o := HO.lst [V.ref m1, V.ref m2, V.ref m3, V.ref m4])
          have zA := (((z1.trans z2).trans z3).trans z4).trans z5
          generalize hK2 : upd (upd (upd (upd (upd K1 m1 _) m2 _) m3 _) m4 _) L _ = K2 at q1 q2 q3 q4 qL zA ⊢
          have cx2 := cx.mono zA
          have T2 := T1.mono zA
          have nl5 : ([45, 45] ++ nm).length ≤ 20 := by rw [List.length_append]; show 2 + nm.length ≤ 20; omega
          refine ⟨Mid K st dL n9, ?_, ?_⟩
          · refine ⟨_, rfl, _, rfl, _, rfl, _, rfl, a1, a2, nm, [c], [d], sh, vl, zz, kLast, kCount, rfl, cx2.t1, cx2.t2, by omega, Nat.le_refl _, Nat.le_refl _, by omega, by omega, by decide, fun R K3 e3 hR => ?_⟩
            obtain ⟨as, hR1, hR2⟩ := hR
            have ln : as.length = (rowsF ([45, 45] ++ nm) [c] [d] sh vl zz).length := hR2.length
            have cx3 := cx2.mono e3
            refine ⟨R, rfl, ⟨_, sq_of hR1⟩, for_it (L2.walk_list (K := K) (a := R) (xs := as.map V.ref)) (fun i σ H => ∃ z14 z15 z21, σ = [y0, some (.ref st), some (.str lt25), y3, some (ss nm), some (ss sh), y6, some (ss vl), some (ss [c]), some (ss [d]), some (.ref a1), some (.ref a2), some (.ref ap), some (.ref L), z14, z15, y16, y17, y18, y19, y20, z21] ∧ Ex K3 H)
              ⟨_, _, _, rfl, Ex.refl _⟩ (fun i σ H _ ⟨_, _, _, _, e⟩ => sq_of (e _ _ hR1)) ?_ ?_⟩
            · rintro i x σ H4 H5 hi ⟨z14, z15, z21, rfl, e4⟩ ⟨rfl, hx⟩
              have hi' : i < as.length := by simpa using hi
              rw [List.getElem?_map, List.getElem?_eq_getElem hi'] at hx
              obtain rfl : V.ref as[i] = x := Option.some.inj hx
              obtain ⟨r, hr, hra⟩ := L2.paired_get hR2 (List.getElem?_eq_getElem hi')
              obtain ⟨bb, hb1, hb2⟩ := hra.mono e4
              have cx4 := cx3.mono e4
              have e24 := e3.trans e4
              obtain ⟨rw_, rlen, rfl4⟩ := rows_so gd2 r (List.mem_of_getElem? hr)
              refine ⟨_, rfl, L, rfl, ⟨_, sq_of (e24 _ _ qL)⟩, fun D hD => ?_⟩
              refine lc_ys (L2.walk_list (K := K) (a := L) (xs := [.ref m1, .ref m2, .ref m3, .ref m4])) [(m1, true, true, true), (m2, true, false, true), (m3, true, true, false), (m4, false, true, true)] rfl (by show 4 ≤ 100000; decide) (fun _ => true) (fun y => .bl (lastsF (grF nm c d y.2.1 y.2.2.1 y.2.2.2) r.1)) hD (fun H2 e2 => sq_of (e2 _ _ (e24 _ _ qL))) ?_ ?_
              · rintro j y x H6 H7 hy e6 ⟨rfl, hx⟩ Z N hz _
                have e26 := e24.trans e6
                have key : V.ref y.1 = x ∧ SqT K H7 y.1 [.bl y.2.1, .bl y.2.2.1, .bl y.2.2.2] := by
                  rcases j with _ | _ | _ | _ | j
                  · obtain rfl : (m1, true, true, true) = y := Option.some.inj hy
                    exact ⟨Option.some.inj hx, st_of (e26 _ _ q1)⟩
                  · obtain rfl : (m2, true, false, true) = y := Option.some.inj hy
                    exact ⟨Option.some.inj hx, st_of (e26 _ _ q2)⟩
                  · obtain rfl : (m3, true, true, false) = y := Option.some.inj hy
                    exact ⟨Option.some.inj hx, st_of (e26 _ _ q3)⟩
                  · obtain rfl : (m4, false, true, true) = y := Option.some.inj hy
                    exact ⟨Option.some.inj hx, st_of (e26 _ _ q4)⟩
                  · exact absurd hy (by simp)
                obtain ⟨rfl, hm⟩ := key
                refine ⟨rfl, ?_⟩
                refine ⟨_, rfl, _, rfl, sz2, fun t1 ht1 => ⟨_, rfl, _, rfl, sz3, fun t2 ht2 => ?_⟩⟩
                have f1 := Ex.new (o := HO.tup [V.ref a1, V.ref a2]) ht1
                have f2 := Ex.new (o := HO.tup [V.ref t1, V.ref ap, V.ref y.1]) ht2
                refine ⟨_, rfl, as[i], _, 0, .ref bb, rfl, rfl, ex_t ((e6.trans f1).trans f2) hb1, atI_nat (j := 0) rfl, rfl, .bl (lastsF (grF nm c d y.2.1 y.2.2.1 y.2.2.2) r.1), ⟨grF nm c d y.2.1 y.2.2.1 y.2.2.2, t2, bb, r.1, rfl, ?_, gr_ok gd2 _ _ _, ex_t ((e6.trans f1).trans f2) hb2, rlen, rw_, rfl⟩, fun H8 e8 => hz H8 ((f1.trans f2).trans e8) rfl⟩
                exact (cx4.mono ((e6.trans f1).trans f2)).gr (ex_t f2 (st_of upd_same)) (st_of upd_same) (ex_t (f1.trans f2) hm)
              · intro H6 e6 hDl
                have hDl : H6 D = some (.lst (r.2.map V.bl)) := by rw [hDl, rfl4]; rfl
                obtain ⟨s1, s2, s3, s4⟩ : (PyData.list (r.2.map PyData.bool)).showable = true ∧ (PyData.list (r.2.map PyData.bool)).depth ≤ 60 ∧ (PyData.list (r.2.map PyData.bool)).hasDict = false ∧ (PyData.list (r.2.map PyData.bool)).shown.length ≤ sizeLine := by rw [rfl4]; exact show4 _ _ _ _
                refine ⟨_, rfl, D, .list (r.2.map PyData.bool), rfl, .lst (sq_of hDl) (dp_bools _ _ _), s1, s2, s3, s4, ?_⟩
                have hb6 := ex_t e6 hb1
                rw [show V.ref bb :: List.map V.bl r.2 = [V.ref bb, .bl (lastsF (grF nm c d true true true) r.1), .bl (lastsF (grF nm c d true false true) r.1), .bl (lastsF (grF nm c d true true false) r.1), .bl (lastsF (grF nm c d false true true) r.1)] by rw [rfl4]; rfl] at hb6
                refine ⟨_, rfl, 1, rfl, as[i], _, rfl, hb6, fun h => absurd h.1 (show ¬ HT.sIx 5 0 (some 1) = 0 by decide), fun _ t1 ht1 => ?_⟩
                refine ⟨t1, _, rfl, .inr (st_of upd_same), fun l1 hl1 => ?_⟩
                have f1 := Ex.new (o := HO.tup (cutV [V.ref bb, .bl (lastsF (grF nm c d true true true) r.1), .bl (lastsF (grF nm c d true false true) r.1), .bl (lastsF (grF nm c d true true false) r.1), .bl (lastsF (grF nm c d false true true) r.1)] (some 1) none)) ht1
                refine ⟨l1, .list (r.2.map PyData.bool), rfl, .lst (sq_of (xs := r.2.map V.bl) (by rw [upd_same, rfl4]; rfl)) (dp_bools _ _ _), s1, s2, s3, s4, ?_⟩
                refine ⟨rfl, _, rfl, ?_⟩
                refine ifF (by simp) ?_
                exact ⟨_, _, _, rfl, (e4.trans e6).trans (f1.trans (Ex.new hl1))⟩
            · rintro σ H ⟨z14, z15, z21, rfl, e⟩
              exact ⟨_, _, _, _, _, _, _, _, _, _, _, _, nm, sh, vl, c, d, a1, a2, ap, rfl, T2.mono (e3.trans e), cx3.mono e, gd2⟩
          · -- figure, kept
            rintro σ2 K4 ⟨y0, y3, y6, y13, y14, y15, y16, y17, y18, y19, y20, y21, nm, sh, vl, c, d, a1, a2, ap, rfl, T4, cx4, gd4⟩
            try dsimp only
            refine ⟨sz3, fun g1 hg1 => ?_⟩
            have gx1 := Ex.new (o := HO.tup [V.str "zy", V.str "5", V.str "flag"]) hg1
            have gg1 := upd_same (H := K4) (a := g1) (o := HO.tup [V.str "zy", V.str "5", V.str "flag"])
            rw [lit_zy, lit_5, lit_flag] at gg1
            refine ta_rows (K := K) (rl_lst (rs_cons (ev_row1 (r := ([[45, 53]], [true])) (ea_cons (ev_lit (by decide +kernel)) ea_nil) (ea_cons ev_c ea_nil) (by show 1 ≤ 100; decide))
              (rs_cons (ev_row1 (r := ([[45, 53, 53], [119]], [true])) (ea_cons (ev_lit (by decide +kernel)) (ea_cons (ev_lit (by decide +kernel)) ea_nil)) (ea_cons ev_c ea_nil) (by show 2 ≤ 100; decide))
              (rs_cons (ev_row1 (r := ([[45, 55]], [false])) (ea_cons (ev_lit (by decide +kernel)) ea_nil) (ea_cons ev_c ea_nil) (by show 1 ≤ 100; decide)) rs_nil))) (by show 3 ≤ 100; decide)) fun L1 K5 e5 hL1 => ?_
            refine ⟨_, _, rfl, ?_⟩
            have cx5 := (cx4.mono gx1).mono e5
            have T5 := (T4.mono gx1).mono e5
            have gg5 := e5 _ _ gg1
            refine ⟨Mid K st dL n9, ?_, ?_⟩
            · refine tf_rows (K := K) (rl_cat (rl_var rfl hL1) (rl_lst (rs_cons (ev_row1 (r := ([[45, 45], [45, 53]], [true])) (ea_cons (ev_lit (by decide +kernel)) (ea_cons (ev_lit (by decide +kernel)) ea_nil)) (ea_cons ev_c ea_nil) (by show 2 ≤ 100; decide))
                (rs_cons (ev_row1 (r := ([[119], [45, 53]], [true])) (ea_cons (ev_lit (by decide +kernel)) (ea_cons (ev_lit (by decide +kernel)) ea_nil)) (ea_cons ev_c ea_nil) (by show 2 ≤ 100; decide))
                (rs_cons (ev_row1 (r := ([[119], [45, 53, 55]], [false])) (ea_cons (ev_lit (by decide +kernel)) (ea_cons (ev_lit (by decide +kernel)) ea_nil)) (ea_cons ev_c ea_nil) (by show 2 ≤ 100; decide)) rs_nil))) (by show 3 ≤ 100; decide)) (by show 3 + 3 ≤ 1000; decide)) fun R K6 e6 hR => ?_
              obtain ⟨as, hR1, hR2⟩ := hR
              have cx6 := cx5.mono e6
              have gg6 := e6 _ _ gg5
              refine for_it (L2.walk_list (K := K) (a := R) (xs := as.map V.ref)) (fun i σ H => ∃ z18 z19, σ = [y0, some (.ref st), some (.str lt25), y3, some (ss nm), some (ss sh), y6, some (ss vl), some (ss [c]), some (ss [d]), some (.ref a1), some (.ref a2), some (.ref ap), y13, y14, y15, some (.ref g1), some (.ref L1), z18, z19, y20, y21] ∧ Ex K6 H)
                ⟨_, _, rfl, Ex.refl _⟩ (fun i σ H _ ⟨_, _, _, e⟩ => sq_of (e _ _ hR1)) ?_ ?_
              · rintro i x σ H4 H5 hi ⟨z18, z19, rfl, e4⟩ ⟨rfl, hx⟩
                have hi' : i < as.length := by simpa using hi
                rw [List.getElem?_map, List.getElem?_eq_getElem hi'] at hx
                obtain rfl : V.ref as[i] = x := Option.some.inj hx
                obtain ⟨r, hr, hra⟩ := L2.paired_get hR2 (List.getElem?_eq_getElem hi')
                obtain ⟨bb, hb1, hb2⟩ := hra.mono e4
                obtain ⟨rw_, rlen, rfl4⟩ := rows3_so gd4 r (List.mem_of_getElem? hr)
                rw [rfl4] at hb1
                refine ⟨as[i], _, rfl, hb1, rfl, _, _, rfl, _, _, rfl, rfl, ?_⟩
                refine ⟨_, rfl, _, rfl, _, rfl, sz3, fun t1 ht1 => ⟨_, rfl, sz3, fun t2 ht2 => ⟨sz3, fun t3 ht3 => ?_⟩⟩⟩
                have f1 := Ex.new (o := HO.tup [V.ref a1, V.ref a2, V.ref g1]) ht1
                have f2 := Ex.new (o := HO.tup [V.bl true, V.bl true, V.bl true]) ht2
                have f3 := Ex.new (o := HO.tup [V.ref t1, V.ref ap, V.ref t2]) ht3
                have cx7 := (cx6.mono e4).mono ((f1.trans f2).trans f3)
                refine ⟨_, rfl, rfl, .bl (lastsF (gr3 nm c d) r.1), ⟨gr3 nm c d, t3, bb, r.1, rfl, ?_, gr3_ok gd4, ex_t ((f1.trans f2).trans f3) hb2, rlen, rw_, rfl⟩, fun H8 e8 => ?_⟩
                · exact cx7.gr3 (ex_t ((f1.trans f2).trans f3) (st_of (e4 _ _ gg6))) (ex_t (f2.trans f3) (st_of upd_same)) (st_of upd_same) (ex_t f3 (st_of upd_same))
                refine ⟨_, rfl, _, rfl, _, rfl, rfl, _, rfl, ?_⟩
                refine ifF (by simp) ?_
                exact ⟨_, _, rfl, (e4.trans ((f1.trans f2).trans f3)).trans e8⟩
              · rintro σ H ⟨z18, z19, rfl, e⟩
                exact ⟨_, _, _, _, _, _, _, _, _, _, _, _, nm, sh, vl, c, d, a1, a2, ap, rfl, (T5.mono e6).mono e, cx6.mono e, gd4⟩
            · rintro σ2 K4 ⟨y0, y3, y6, y13, y14, y15, y16, y17, y18, y19, y20, y21, nm, sh, vl, c, d, a1, a2, ap, rfl, T4, cx4, gd4⟩
              refine tf_rows (K := K) (rl_lst (rs_cons (ev_row1 (r := ([], [true])) ea_nil (ea_cons ev_c ea_nil) (by show 0 ≤ 100; decide))
                (rs_cons (ev_row1 (r := ([[119]], [false])) (ea_cons (ev_lit (by decide +kernel)) ea_nil) (ea_cons ev_c ea_nil) (by show 1 ≤ 100; decide))
                (rs_cons (ev_row1 (r := ([[45, 53]], [false])) (ea_cons (ev_lit (by decide +kernel)) ea_nil) (ea_cons ev_c ea_nil) (by show 1 ≤ 100; decide))
                (rs_cons (ev_row1 (r := ([[45] ++ [d]], [true])) (ea_cons (ev_cat (ev_lit (by decide +kernel)) (ev_var rfl) (by show 1 + 1 ≤ 1000; decide)) ea_nil) (ea_cons ev_c ea_nil) (by show 1 ≤ 100; decide)) rs_nil)))) (by show 4 ≤ 100; decide)) fun R K6 e6 hR => ?_
              obtain ⟨as, hR1, hR2⟩ := hR
              have cx6 := cx4.mono e6
              refine for_it (L2.walk_list (K := K) (a := R) (xs := as.map V.ref)) (fun i σ H => ∃ z18 z19, σ = [y0, some (.ref st), some (.str lt25), y3, some (ss nm), some (ss sh), y6, some (ss vl), some (ss [c]), some (ss [d]), some (.ref a1), some (.ref a2), some (.ref ap), y13, y14, y15, y16, y17, z18, z19, y20, y21] ∧ Ex K6 H)
                ⟨_, _, rfl, Ex.refl _⟩ (fun i σ H _ ⟨_, _, _, e⟩ => sq_of (e _ _ hR1)) ?_ ?_
              · rintro i x σ H4 H5 hi ⟨z18, z19, rfl, e4⟩ ⟨rfl, hx⟩
                have hi' : i < as.length := by simpa using hi
                rw [List.getElem?_map, List.getElem?_eq_getElem hi'] at hx
                obtain rfl : V.ref as[i] = x := Option.some.inj hx
                obtain ⟨r, hr, hra⟩ := L2.paired_get hR2 (List.getElem?_eq_getElem hi')
                obtain ⟨bb, hb1, hb2⟩ := hra.mono e4
                obtain ⟨rw_, rlen, rfl4⟩ := rows0_so gd4 r (List.mem_of_getElem? hr)
                rw [rfl4] at hb1
                refine ⟨as[i], _, rfl, hb1, rfl, _, _, rfl, _, _, rfl, rfl, ?_⟩
                refine ⟨_, rfl, _, rfl, sz2, fun t1 ht1 => ⟨by show 0 ≤ sizeLine; decide, fun t0 ht0 => ⟨sz3, fun t2 ht2 => ⟨sz3, fun t3 ht3 => ?_⟩⟩⟩⟩
                have f1 := Ex.new (o := HO.tup [V.ref a1, V.ref a2]) ht1
                have f0 := Ex.new (o := HO.tup []) ht0
                have f2 := Ex.new (o := HO.tup [V.bl true, V.bl true, V.bl true]) ht2
                have f3 := Ex.new (o := HO.tup [V.ref t1, V.ref t0, V.ref t2]) ht3
                have cx7 := (cx6.mono e4).mono (((f1.trans f0).trans f2).trans f3)
                refine ⟨_, rfl, rfl, .bl (lastsF (gr0 nm c d) r.1), ⟨gr0 nm c d, t3, bb, r.1, rfl, ?_, gr0_ok gd4, ex_t (((f1.trans f0).trans f2).trans f3) hb2, rlen, rw_, rfl⟩, fun H8 e8 => ?_⟩
                · exact cx7.gr0 (ex_t ((f0.trans f2).trans f3) (st_of upd_same)) (st_of upd_same) (ex_t (f2.trans f3) (st_of upd_same)) (ex_t f3 (st_of upd_same))
                refine ⟨_, rfl, _, rfl, _, rfl, rfl, _, rfl, ?_⟩
                refine ifF (by simp) ?_
                exact ⟨_, _, rfl, (e4.trans (((f1.trans f0).trans f2).trans f3)).trans e8⟩
              · rintro σ H ⟨z18, z19, rfl, e⟩
                exact ⟨n9, _, _, _, _, _, _, _, _, _, _, _, _, _, _, _, _, _, _, _, _, rfl, (T4.mono e6).mono e, hn9.1⟩
    · rintro σ H2 ⟨n, x0, x3, x4, x5, x6, x7, x8, x9, x10, x11, x12, x13, x14, x15, x16, x17, x18, x19, x20, x21, rfl, S2, hn⟩
      exact q H2
end
end K9

set_option Elab.async false
set_option maxRecDepth 100000
set_option maxHeartbeats 4000000
namespace K9
open PySem PySem.Spec PyProof.Rows L2 SX Evl KL
theorem all_of {l : PySem.W.OpenLaw} {w : World} {K : PySem.W.Frag} {h : Heap} {mg : Str → Option Value} (X : K.In h) (G : h.Ns mainGlobals mg)
    {f0 : Addr} {oc0 kV0 dc0 pm0 cd0 ct0 : Value} {od0 an0 : Option Addr} {sl0 : Array (Option Value)}
    (a0 : PySem.W.nsIn K mainGlobals "made_of" = some (some (.ref f0)))
    (l0 : K.lookup f0 = some ⟨oc0, od0, .func (PySem.W.fnOf "made_of" "made_of" (C8.fnArgs s_made_of) (C8.fnBody s_made_of) (C8.fnScope s_made_of) .none kV0 dc0 pm0 an0 cd0 ct0), sl0⟩)
    (c0 : PySem.W.codeIn K cd0 "made_of" = true)
    (k0 : PySem.W.keepIn K (.ref f0) = true)
    {f1 : Addr} {oc1 kV1 dc1 pm1 cd1 ct1 : Value} {od1 an1 : Option Addr} {sl1 : Array (Option Value)}
    (a1 : PySem.W.nsIn K mainGlobals "is_word" = some (some (.ref f1)))
    (l1 : K.lookup f1 = some ⟨oc1, od1, .func (PySem.W.fnOf "is_word" "is_word" (C8.fnArgs s_is_word) (C8.fnBody s_is_word) (C8.fnScope s_is_word) .none kV1 dc1 pm1 an1 cd1 ct1), sl1⟩)
    (c1 : PySem.W.codeIn K cd1 "is_word" = true)
    (k1 : PySem.W.keepIn K (.ref f1) = true)
    {f2 : Addr} {oc2 kV2 dc2 pm2 cd2 ct2 : Value} {od2 an2 : Option Addr} {sl2 : Array (Option Value)}
    (a2 : PySem.W.nsIn K mainGlobals "is_name" = some (some (.ref f2)))
    (l2 : K.lookup f2 = some ⟨oc2, od2, .func (PySem.W.fnOf "is_name" "is_name" (C8.fnArgs s_is_name) (C8.fnBody s_is_name) (C8.fnScope s_is_name) .none kV2 dc2 pm2 an2 cd2 ct2), sl2⟩)
    (c2 : PySem.W.codeIn K cd2 "is_name" = true)
    (k2 : PySem.W.keepIn K (.ref f2) = true)
    {f3 : Addr} {oc3 kV3 dc3 pm3 cd3 ct3 : Value} {od3 an3 : Option Addr} {sl3 : Array (Option Value)}
    (a3 : PySem.W.nsIn K mainGlobals "is_letter" = some (some (.ref f3)))
    (l3 : K.lookup f3 = some ⟨oc3, od3, .func (PySem.W.fnOf "is_letter" "is_letter" (C8.fnArgs s_is_letter) (C8.fnBody s_is_letter) (C8.fnScope s_is_letter) .none kV3 dc3 pm3 an3 cd3 ct3), sl3⟩)
    (c3 : PySem.W.codeIn K cd3 "is_letter" = true)
    (k3 : PySem.W.keepIn K (.ref f3) = true)
    {f4 : Addr} {oc4 kV4 dc4 pm4 cd4 ct4 : Value} {od4 an4 : Option Addr} {sl4 : Array (Option Value)}
    (a4 : PySem.W.nsIn K mainGlobals "is_dashed" = some (some (.ref f4)))
    (l4 : K.lookup f4 = some ⟨oc4, od4, .func (PySem.W.fnOf "is_dashed" "is_dashed" (C8.fnArgs s_is_dashed) (C8.fnBody s_is_dashed) (C8.fnScope s_is_dashed) .none kV4 dc4 pm4 an4 cd4 ct4), sl4⟩)
    (c4 : PySem.W.codeIn K cd4 "is_dashed" = true)
    (k4 : PySem.W.keepIn K (.ref f4) = true)
    {f5 : Addr} {oc5 kV5 dc5 pm5 cd5 ct5 : Value} {od5 an5 : Option Addr} {sl5 : Array (Option Value)}
    (a5 : PySem.W.nsIn K mainGlobals "is_number" = some (some (.ref f5)))
    (l5 : K.lookup f5 = some ⟨oc5, od5, .func (PySem.W.fnOf "is_number" "is_number" (C8.fnArgs s_is_number) (C8.fnBody s_is_number) (C8.fnScope s_is_number) .none kV5 dc5 pm5 an5 cd5 ct5), sl5⟩)
    (c5 : PySem.W.codeIn K cd5 "is_number" = true)
    (k5 : PySem.W.keepIn K (.ref f5) = true)
    {f6 : Addr} {oc6 kV6 dc6 pm6 cd6 ct6 : Value} {od6 an6 : Option Addr} {sl6 : Array (Option Value)}
    (a6 : PySem.W.nsIn K mainGlobals "need_line" = some (some (.ref f6)))
    (l6 : K.lookup f6 = some ⟨oc6, od6, .func (PySem.W.fnOf "need_line" "need_line" (C8.fnArgs s_need_line) (C8.fnBody s_need_line) (C8.fnScope s_need_line) .none kV6 dc6 pm6 an6 cd6 ct6), sl6⟩)
    (c6 : PySem.W.codeIn K cd6 "need_line" = true)
    (k6 : PySem.W.keepIn K (.ref f6) = true)
    {f7 : Addr} {oc7 kV7 dc7 pm7 cd7 ct7 : Value} {od7 an7 : Option Addr} {sl7 : Array (Option Value)}
    (a7 : PySem.W.nsIn K mainGlobals "is_one_of" = some (some (.ref f7)))
    (l7 : K.lookup f7 = some ⟨oc7, od7, .func (PySem.W.fnOf "is_one_of" "is_one_of" (C8.fnArgs s_is_one_of) (C8.fnBody s_is_one_of) (C8.fnScope s_is_one_of) .none kV7 dc7 pm7 an7 cd7 ct7), sl7⟩)
    (c7 : PySem.W.codeIn K cd7 "is_one_of" = true)
    (k7 : PySem.W.keepIn K (.ref f7) = true)
    {f8 : Addr} {oc8 kV8 dc8 pm8 cd8 ct8 : Value} {od8 an8 : Option Addr} {sl8 : Array (Option Value)}
    (a8 : PySem.W.nsIn K mainGlobals "is_tuple_of" = some (some (.ref f8)))
    (l8 : K.lookup f8 = some ⟨oc8, od8, .func (PySem.W.fnOf "is_tuple_of" "is_tuple_of" (C8.fnArgs s_is_tuple_of) (C8.fnBody s_is_tuple_of) (C8.fnScope s_is_tuple_of) .none kV8 dc8 pm8 an8 cd8 ct8), sl8⟩)
    (c8 : PySem.W.codeIn K cd8 "is_tuple_of" = true)
    (k8 : PySem.W.keepIn K (.ref f8) = true)
    {f9 : Addr} {oc9 kV9 dc9 pm9 cd9 ct9 : Value} {od9 an9 : Option Addr} {sl9 : Array (Option Value)}
    (a9 : PySem.W.nsIn K mainGlobals "is_option" = some (some (.ref f9)))
    (l9 : K.lookup f9 = some ⟨oc9, od9, .func (PySem.W.fnOf "is_option" "is_option" (C8.fnArgs s_is_option) (C8.fnBody s_is_option) (C8.fnScope s_is_option) .none kV9 dc9 pm9 an9 cd9 ct9), sl9⟩)
    (c9 : PySem.W.codeIn K cd9 "is_option" = true)
    (k9 : PySem.W.keepIn K (.ref f9) = true)
    {f10 : Addr} {oc10 kV10 dc10 pm10 cd10 ct10 : Value} {od10 an10 : Option Addr} {sl10 : Array (Option Value)}
    (a10 : PySem.W.nsIn K mainGlobals "is_place" = some (some (.ref f10)))
    (l10 : K.lookup f10 = some ⟨oc10, od10, .func (PySem.W.fnOf "is_place" "is_place" (C8.fnArgs s_is_place) (C8.fnBody s_is_place) (C8.fnScope s_is_place) .none kV10 dc10 pm10 an10 cd10 ct10), sl10⟩)
    (c10 : PySem.W.codeIn K cd10 "is_place" = true)
    (k10 : PySem.W.keepIn K (.ref f10) = true)
    {f11 : Addr} {oc11 kV11 dc11 pm11 cd11 ct11 : Value} {od11 an11 : Option Addr} {sl11 : Array (Option Value)}
    (a11 : PySem.W.nsIn K mainGlobals "need_options" = some (some (.ref f11)))
    (l11 : K.lookup f11 = some ⟨oc11, od11, .func (PySem.W.fnOf "need_options" "need_options" (C8.fnArgs s_need_options) (C8.fnBody s_need_options) (C8.fnScope s_need_options) .none kV11 dc11 pm11 an11 cd11 ct11), sl11⟩)
    (c11 : PySem.W.codeIn K cd11 "need_options" = true)
    (k11 : PySem.W.keepIn K (.ref f11) = true)
    {f12 : Addr} {oc12 kV12 dc12 pm12 cd12 ct12 : Value} {od12 an12 : Option Addr} {sl12 : Array (Option Value)}
    (a12 : PySem.W.nsIn K mainGlobals "need_places" = some (some (.ref f12)))
    (l12 : K.lookup f12 = some ⟨oc12, od12, .func (PySem.W.fnOf "need_places" "need_places" (C8.fnArgs s_need_places) (C8.fnBody s_need_places) (C8.fnScope s_need_places) .none kV12 dc12 pm12 an12 cd12 ct12), sl12⟩)
    (c12 : PySem.W.codeIn K cd12 "need_places" = true)
    (k12 : PySem.W.keepIn K (.ref f12) = true)
    {f13 : Addr} {oc13 kV13 dc13 pm13 cd13 ct13 : Value} {od13 an13 : Option Addr} {sl13 : Array (Option Value)}
    (a13 : PySem.W.nsIn K mainGlobals "need_modes" = some (some (.ref f13)))
    (l13 : K.lookup f13 = some ⟨oc13, od13, .func (PySem.W.fnOf "need_modes" "need_modes" (C8.fnArgs s_need_modes) (C8.fnBody s_need_modes) (C8.fnScope s_need_modes) .none kV13 dc13 pm13 an13 cd13 ct13), sl13⟩)
    (c13 : PySem.W.codeIn K cd13 "need_modes" = true)
    (k13 : PySem.W.keepIn K (.ref f13) = true)
    {f14 : Addr} {oc14 kV14 dc14 pm14 cd14 ct14 : Value} {od14 an14 : Option Addr} {sl14 : Array (Option Value)}
    (a14 : PySem.W.nsIn K mainGlobals "need_grammar" = some (some (.ref f14)))
    (l14 : K.lookup f14 = some ⟨oc14, od14, .func (PySem.W.fnOf "need_grammar" "need_grammar" (C8.fnArgs s_need_grammar) (C8.fnBody s_need_grammar) (C8.fnScope s_need_grammar) .none kV14 dc14 pm14 an14 cd14 ct14), sl14⟩)
    (c14 : PySem.W.codeIn K cd14 "need_grammar" = true)
    (k14 : PySem.W.keepIn K (.ref f14) = true)
    {f15 : Addr} {oc15 kV15 dc15 pm15 cd15 ct15 : Value} {od15 an15 : Option Addr} {sl15 : Array (Option Value)}
    (a15 : PySem.W.nsIn K mainGlobals "only_beginnings" = some (some (.ref f15)))
    (l15 : K.lookup f15 = some ⟨oc15, od15, .func (PySem.W.fnOf "only_beginnings" "only_beginnings" (C8.fnArgs s_only_beginnings) (C8.fnBody s_only_beginnings) (C8.fnScope s_only_beginnings) .none kV15 dc15 pm15 an15 cd15 ct15), sl15⟩)
    (c15 : PySem.W.codeIn K cd15 "only_beginnings" = true)
    (k15 : PySem.W.keepIn K (.ref f15) = true)
    {f16 : Addr} {oc16 kV16 dc16 pm16 cd16 ct16 : Value} {od16 an16 : Option Addr} {sl16 : Array (Option Value)}
    (a16 : PySem.W.nsIn K mainGlobals "told_names" = some (some (.ref f16)))
    (l16 : K.lookup f16 = some ⟨oc16, od16, .func (PySem.W.fnOf "told_names" "told_names" (C8.fnArgs s_told_names) (C8.fnBody s_told_names) (C8.fnScope s_told_names) .none kV16 dc16 pm16 an16 cd16 ct16), sl16⟩)
    (c16 : PySem.W.codeIn K cd16 "told_names" = true)
    (k16 : PySem.W.keepIn K (.ref f16) = true)
    {f17 : Addr} {oc17 kV17 dc17 pm17 cd17 ct17 : Value} {od17 an17 : Option Addr} {sl17 : Array (Option Value)}
    (a17 : PySem.W.nsIn K mainGlobals "reads_numbers" = some (some (.ref f17)))
    (l17 : K.lookup f17 = some ⟨oc17, od17, .func (PySem.W.fnOf "reads_numbers" "reads_numbers" (C8.fnArgs s_reads_numbers) (C8.fnBody s_reads_numbers) (C8.fnScope s_reads_numbers) .none kV17 dc17 pm17 an17 cd17 ct17), sl17⟩)
    (c17 : PySem.W.codeIn K cd17 "reads_numbers" = true)
    (k17 : PySem.W.keepIn K (.ref f17) = true)
    {f18 : Addr} {oc18 kV18 dc18 pm18 cd18 ct18 : Value} {od18 an18 : Option Addr} {sl18 : Array (Option Value)}
    (a18 : PySem.W.nsIn K mainGlobals "count_arity" = some (some (.ref f18)))
    (l18 : K.lookup f18 = some ⟨oc18, od18, .func (PySem.W.fnOf "count_arity" "count_arity" (C8.fnArgs s_count_arity) (C8.fnBody s_count_arity) (C8.fnScope s_count_arity) .none kV18 dc18 pm18 an18 cd18 ct18), sl18⟩)
    (c18 : PySem.W.codeIn K cd18 "count_arity" = true)
    (k18 : PySem.W.keepIn K (.ref f18) = true)
    {f19 : Addr} {oc19 kV19 dc19 pm19 cd19 ct19 : Value} {od19 an19 : Option Addr} {sl19 : Array (Option Value)}
    (a19 : PySem.W.nsIn K mainGlobals "shares" = some (some (.ref f19)))
    (l19 : K.lookup f19 = some ⟨oc19, od19, .func (PySem.W.fnOf "shares" "shares" (C8.fnArgs s_shares) (C8.fnBody s_shares) (C8.fnScope s_shares) .none kV19 dc19 pm19 an19 cd19 ct19), sl19⟩)
    (c19 : PySem.W.codeIn K cd19 "shares" = true)
    (k19 : PySem.W.keepIn K (.ref f19) = true)
    {f20 : Addr} {oc20 kV20 dc20 pm20 cd20 ct20 : Value} {od20 an20 : Option Addr} {sl20 : Array (Option Value)}
    (a20 : PySem.W.nsIn K mainGlobals "reading_of" = some (some (.ref f20)))
    (l20 : K.lookup f20 = some ⟨oc20, od20, .func (PySem.W.fnOf "reading_of" "reading_of" (C8.fnArgs s_reading_of) (C8.fnBody s_reading_of) (C8.fnScope s_reading_of) .none kV20 dc20 pm20 an20 cd20 ct20), sl20⟩)
    (c20 : PySem.W.codeIn K cd20 "reading_of" = true)
    (k20 : PySem.W.keepIn K (.ref f20) = true)
    {f21 : Addr} {oc21 kV21 dc21 pm21 cd21 ct21 : Value} {od21 an21 : Option Addr} {sl21 : Array (Option Value)}
    (a21 : PySem.W.nsIn K mainGlobals "lasts" = some (some (.ref f21)))
    (l21 : K.lookup f21 = some ⟨oc21, od21, .func (PySem.W.fnOf "lasts" "lasts" (C8.fnArgs s_lasts) (C8.fnBody s_lasts) (C8.fnScope s_lasts) .none kV21 dc21 pm21 an21 cd21 ct21), sl21⟩)
    (c21 : PySem.W.codeIn K cd21 "lasts" = true)
    (k21 : PySem.W.keepIn K (.ref f21) = true)
    {f22 : Addr} {oc22 kV22 dc22 pm22 cd22 ct22 : Value} {od22 an22 : Option Addr} {sl22 : Array (Option Value)}
    (a22 : PySem.W.nsIn K mainGlobals "_law_mixed" = some (some (.ref f22)))
    (l22 : K.lookup f22 = some ⟨oc22, od22, .func (PySem.W.fnOf "_law_mixed" "_law_mixed" (C8.fnArgs s_law_mixed) (C8.fnBody s_law_mixed) (C8.fnScope s_law_mixed) .none kV22 dc22 pm22 an22 cd22 ct22), sl22⟩)
    (c22 : PySem.W.codeIn K cd22 "_law_mixed" = true)
    (k22 : PySem.W.keepIn K (.ref f22) = true)
    {f23 : Addr} {oc23 kV23 dc23 pm23 cd23 ct23 : Value} {od23 an23 : Option Addr} {sl23 : Array (Option Value)}
    (a23 : PySem.W.nsIn K mainGlobals "_law_begin" = some (some (.ref f23)))
    (l23 : K.lookup f23 = some ⟨oc23, od23, .func (PySem.W.fnOf "_law_begin" "_law_begin" (C8.fnArgs s_law_begin) (C8.fnBody s_law_begin) (C8.fnScope s_law_begin) .none kV23 dc23 pm23 an23 cd23 ct23), sl23⟩)
    (c23 : PySem.W.codeIn K cd23 "_law_begin" = true)
    (k23 : PySem.W.keepIn K (.ref f23) = true)
    {f24 : Addr} {oc24 kV24 dc24 pm24 cd24 ct24 : Value} {od24 an24 : Option Addr} {sl24 : Array (Option Value)}
    (a24 : PySem.W.nsIn K mainGlobals "_law_draw" = some (some (.ref f24)))
    (l24 : K.lookup f24 = some ⟨oc24, od24, .func (PySem.W.fnOf "_law_draw" "_law_draw" (C8.fnArgs s_law_draw) (C8.fnBody s_law_draw) (C8.fnScope s_law_draw) .none kV24 dc24 pm24 an24 cd24 ct24), sl24⟩)
    (c24 : PySem.W.codeIn K cd24 "_law_draw" = true)
    (k24 : PySem.W.keepIn K (.ref f24) = true)
    {f25 : Addr} {oc25 kV25 dc25 pm25 cd25 ct25 : Value} {od25 an25 : Option Addr} {sl25 : Array (Option Value)}
    (a25 : PySem.W.nsIn K mainGlobals "_law_rows" = some (some (.ref f25)))
    (l25 : K.lookup f25 = some ⟨oc25, od25, .func (PySem.W.fnOf "_law_rows" "_law_rows" (C8.fnArgs s_law_rows) (C8.fnBody s_law_rows) (C8.fnScope s_law_rows) .none kV25 dc25 pm25 an25 cd25 ct25), sl25⟩)
    (c25 : PySem.W.codeIn K cd25 "_law_rows" = true)
    (k25 : PySem.W.keepIn K (.ref f25) = true)
    {f26 : Addr} {oc26 kV26 dc26 pm26 cd26 ct26 : Value} {od26 an26 : Option Addr} {sl26 : Array (Option Value)}
    (a26 : PySem.W.nsIn K mainGlobals "law" = some (some (.ref f26)))
    (l26 : K.lookup f26 = some ⟨oc26, od26, .func (PySem.W.fnOf "law" "law" (C8.fnArgs s_law) (C8.fnBody s_law) (C8.fnScope s_law) .none kV26 dc26 pm26 an26 cd26 ct26), sl26⟩)
    (c26 : PySem.W.codeIn K cd26 "law" = true)
    (k26 : PySem.W.keepIn K (.ref f26) = true)
    {C : Addr}
    (aC : PySem.W.nsIn K mainGlobals "Reading" = some (some (.ref C)))
    {f50 : Addr} {oc50 kV50 dc50 pm50 cd50 ct50 : Value} {od50 an50 : Option Addr} {sl50 : Array (Option Value)}
    (a50 : PySem.W.findIn K (.ref C) "__init__" = some (some (.ref f50)))
    (i50 : PySem.W.isFn K (.ref f50) = true)
    (l50 : K.lookup f50 = some ⟨oc50, od50, .func (PySem.W.fnOf "__init__" "Reading.__init__" (C8.fnArgs s_init) (C8.fnBody s_init) (C8.fnScope s_init) .none kV50 dc50 pm50 an50 cd50 ct50), sl50⟩)
    (c50 : PySem.W.codeIn K cd50 "Reading.__init__" = true)
    (k50 : PySem.W.keepIn K (.ref f50) = true)
    {f51 : Addr} {oc51 kV51 dc51 pm51 cd51 ct51 : Value} {od51 an51 : Option Addr} {sl51 : Array (Option Value)}
    (a51 : PySem.W.findIn K (.ref C) "read_word" = some (some (.ref f51)))
    (i51 : PySem.W.isFn K (.ref f51) = true)
    (l51 : K.lookup f51 = some ⟨oc51, od51, .func (PySem.W.fnOf "read_word" "Reading.read_word" (C8.fnArgs s_read_word) (C8.fnBody s_read_word) (C8.fnScope s_read_word) .none kV51 dc51 pm51 an51 cd51 ct51), sl51⟩)
    (c51 : PySem.W.codeIn K cd51 "Reading.read_word" = true)
    (k51 : PySem.W.keepIn K (.ref f51) = true)
    {f52 : Addr} {oc52 kV52 dc52 pm52 cd52 ct52 : Value} {od52 an52 : Option Addr} {sl52 : Array (Option Value)}
    (a52 : PySem.W.findIn K (.ref C) "read_place_word" = some (some (.ref f52)))
    (i52 : PySem.W.isFn K (.ref f52) = true)
    (l52 : K.lookup f52 = some ⟨oc52, od52, .func (PySem.W.fnOf "read_place_word" "Reading.read_place_word" (C8.fnArgs s_read_place_word) (C8.fnBody s_read_place_word) (C8.fnScope s_read_place_word) .none kV52 dc52 pm52 an52 cd52 ct52), sl52⟩)
    (c52 : PySem.W.codeIn K cd52 "Reading.read_place_word" = true)
    (k52 : PySem.W.keepIn K (.ref f52) = true)
    {f53 : Addr} {oc53 kV53 dc53 pm53 cd53 ct53 : Value} {od53 an53 : Option Addr} {sl53 : Array (Option Value)}
    (a53 : PySem.W.findIn K (.ref C) "read_long" = some (some (.ref f53)))
    (i53 : PySem.W.isFn K (.ref f53) = true)
    (l53 : K.lookup f53 = some ⟨oc53, od53, .func (PySem.W.fnOf "read_long" "Reading.read_long" (C8.fnArgs s_read_long) (C8.fnBody s_read_long) (C8.fnScope s_read_long) .none kV53 dc53 pm53 an53 cd53 ct53), sl53⟩)
    (c53 : PySem.W.codeIn K cd53 "Reading.read_long" = true)
    (k53 : PySem.W.keepIn K (.ref f53) = true)
    {f54 : Addr} {oc54 kV54 dc54 pm54 cd54 ct54 : Value} {od54 an54 : Option Addr} {sl54 : Array (Option Value)}
    (a54 : PySem.W.findIn K (.ref C) "read_letters" = some (some (.ref f54)))
    (i54 : PySem.W.isFn K (.ref f54) = true)
    (l54 : K.lookup f54 = some ⟨oc54, od54, .func (PySem.W.fnOf "read_letters" "Reading.read_letters" (C8.fnArgs s_read_letters) (C8.fnBody s_read_letters) (C8.fnScope s_read_letters) .none kV54 dc54 pm54 an54 cd54 ct54), sl54⟩)
    (c54 : PySem.W.codeIn K cd54 "Reading.read_letters" = true)
    (k54 : PySem.W.keepIn K (.ref f54) = true)
    {f55 : Addr} {oc55 kV55 dc55 pm55 cd55 ct55 : Value} {od55 an55 : Option Addr} {sl55 : Array (Option Value)}
    (a55 : PySem.W.findIn K (.ref C) "give_or_await" = some (some (.ref f55)))
    (i55 : PySem.W.isFn K (.ref f55) = true)
    (l55 : K.lookup f55 = some ⟨oc55, od55, .func (PySem.W.fnOf "give_or_await" "Reading.give_or_await" (C8.fnArgs s_give_or_await) (C8.fnBody s_give_or_await) (C8.fnScope s_give_or_await) .none kV55 dc55 pm55 an55 cd55 ct55), sl55⟩)
    (c55 : PySem.W.codeIn K cd55 "Reading.give_or_await" = true)
    (k55 : PySem.W.keepIn K (.ref f55) = true)
    {f56 : Addr} {oc56 kV56 dc56 pm56 cd56 ct56 : Value} {od56 an56 : Option Addr} {sl56 : Array (Option Value)}
    (a56 : PySem.W.findIn K (.ref C) "give" = some (some (.ref f56)))
    (i56 : PySem.W.isFn K (.ref f56) = true)
    (l56 : K.lookup f56 = some ⟨oc56, od56, .func (PySem.W.fnOf "give" "Reading.give" (C8.fnArgs s_give) (C8.fnBody s_give) (C8.fnScope s_give) .none kV56 dc56 pm56 an56 cd56 ct56), sl56⟩)
    (c56 : PySem.W.codeIn K cd56 "Reading.give" = true)
    (k56 : PySem.W.keepIn K (.ref f56) = true)
    (pg : PySem.W.plainGet K C Str.empty = true)
    (hd : PySem.W.hasDictIn K C = true)
    (po : PySem.W.plainOver K C = true)
    (sa : PySem.W.findIn K (.ref C) "__setattr__" = some (some (.builtin "object.__setattr__")))
    (mk : PySem.W.makesIn K C = true)
    (kc : PySem.W.keepIn K (.ref C) = true)
    (n_told : PySem.W.findIn K (.ref C) "told" = some none)
    (n_kinds : PySem.W.findIn K (.ref C) "kinds" = some none)
    (n_letters : PySem.W.findIn K (.ref C) "letters" = some none)
    (n_places : PySem.W.findIn K (.ref C) "places" = some none)
    (n_mixed : PySem.W.findIn K (.ref C) "mixed" = some none)
    (n_minus : PySem.W.findIn K (.ref C) "minus" = some none)
    (n_closed : PySem.W.findIn K (.ref C) "closed" = some none)
    (n_awaited : PySem.W.findIn K (.ref C) "awaited" = some none)
    (n_refused : PySem.W.findIn K (.ref C) "refused" = some none)
    (n_lasting : PySem.W.findIn K (.ref C) "lasting" = some none)
    (n_got : PySem.W.findIn K (.ref C) "got" = some none)
    (n_placed : PySem.W.findIn K (.ref C) "placed" = some none)
    (z_int : PySem.W.nsIn K mainGlobals "int" = some none)
    (z_len : PySem.W.nsIn K mainGlobals "len" = some none)
    (z_list : PySem.W.nsIn K mainGlobals "list" = some none)
    (z_tuple : PySem.W.nsIn K mainGlobals "tuple" = some none)
    (z_range : PySem.W.nsIn K mainGlobals "range" = some none)
    (z_enumerate : PySem.W.nsIn K mainGlobals "enumerate" = some none)
    (z_isinstance : PySem.W.nsIn K mainGlobals "isinstance" = some none)
    (z_all : PySem.W.nsIn K mainGlobals "all" = some none)
    (z_any : PySem.W.nsIn K mainGlobals "any" = some none)
    (z_max : PySem.W.nsIn K mainGlobals "max" = some none)
    (z_repr : PySem.W.nsIn K mainGlobals "repr" = some none)
    (z_str : PySem.W.nsIn K mainGlobals "str" = some none)
    (z_bool : PySem.W.nsIn K mainGlobals "bool" = some none)
    {u_MOST_SIGNS : Value}
    (g_MOST_SIGNS : PySem.W.nsIn K mainGlobals "MOST_SIGNS" = some (some u_MOST_SIGNS))
    (r_MOST_SIGNS : RelV (.int 80) u_MOST_SIGNS)
    {u_MOST_WORDS : Value}
    (g_MOST_WORDS : PySem.W.nsIn K mainGlobals "MOST_WORDS" = some (some u_MOST_WORDS))
    (r_MOST_WORDS : RelV (.int 80) u_MOST_WORDS)
    {u_LEAST_NAME : Value}
    (g_LEAST_NAME : PySem.W.nsIn K mainGlobals "LEAST_NAME" = some (some u_LEAST_NAME))
    (r_LEAST_NAME : RelV (.int 2) u_LEAST_NAME)
    {u_MOST_NAME : Value}
    (g_MOST_NAME : PySem.W.nsIn K mainGlobals "MOST_NAME" = some (some u_MOST_NAME))
    (r_MOST_NAME : RelV (.int 12) u_MOST_NAME)
    {u_MOST_OPTIONS : Value}
    (g_MOST_OPTIONS : PySem.W.nsIn K mainGlobals "MOST_OPTIONS" = some (some u_MOST_OPTIONS))
    (r_MOST_OPTIONS : RelV (.int 24) u_MOST_OPTIONS)
    {u_MOST_PLACES : Value}
    (g_MOST_PLACES : PySem.W.nsIn K mainGlobals "MOST_PLACES" = some (some u_MOST_PLACES))
    (r_MOST_PLACES : RelV (.int 5) u_MOST_PLACES)
    {u_FIGURES : Value}
    (g_FIGURES : PySem.W.nsIn K mainGlobals "FIGURES" = some (some u_FIGURES))
    (r_FIGURES : RelV (.str sgFigure) u_FIGURES)
    {u_LETTERS : Value}
    (g_LETTERS : PySem.W.nsIn K mainGlobals "LETTERS" = some (some u_LETTERS))
    (r_LETTERS : RelV (.str sgLetter) u_LETTERS)
    {u_NAME_SIGNS : Value}
    (g_NAME_SIGNS : PySem.W.nsIn K mainGlobals "NAME_SIGNS" = some (some u_NAME_SIGNS))
    (r_NAME_SIGNS : RelV (.str sgName) u_NAME_SIGNS)
    {u_SIGNS : Value}
    (g_SIGNS : PySem.W.nsIn K mainGlobals "SIGNS" = some (some u_SIGNS))
    (r_SIGNS : RelV (.str sgWord) u_SIGNS)
    {aK : Addr} {o_KINDS : Obj} {t_KINDS : Array Value} {m_KINDS : Nat}
    (g_KINDS : PySem.W.nsIn K mainGlobals "KINDS" = some (some (.ref aK)))
    (l_KINDS : K.lookup aK = some o_KINDS)
    (c_KINDS : o_KINDS.cls = .type "tuple")
    (d_KINDS : o_KINDS.data = .seq t_KINDS m_KINDS)
    (s_KINDS : t_KINDS.size ≤ sizeLine)
    (v_KINDS : Vals [.str "flag", .str "count", .str "once", .str "last", .str "all", .str "maybe"] t_KINDS.toList)
    {aA : Addr} {o_ARITIES : Obj} {t_ARITIES : Array Value} {m_ARITIES : Nat}
    (g_ARITIES : PySem.W.nsIn K mainGlobals "ARITIES" = some (some (.ref aA)))
    (l_ARITIES : K.lookup aA = some o_ARITIES)
    (c_ARITIES : o_ARITIES.cls = .type "tuple")
    (d_ARITIES : o_ARITIES.data = .seq t_ARITIES m_ARITIES)
    (s_ARITIES : t_ARITIES.size ≤ sizeLine)
    (v_ARITIES : Vals [.str "one", .str "may", .str "many"] t_ARITIES.toList)
    {aV : Addr} {o_VALUELESS : Obj} {t_VALUELESS : Array Value} {m_VALUELESS : Nat}
    (g_VALUELESS : PySem.W.nsIn K mainGlobals "VALUELESS" = some (some (.ref aV)))
    (l_VALUELESS : K.lookup aV = some o_VALUELESS)
    (c_VALUELESS : o_VALUELESS.cls = .type "tuple")
    (d_VALUELESS : o_VALUELESS.data = .seq t_VALUELESS m_VALUELESS)
    (s_VALUELESS : t_VALUELESS.size ≤ sizeLine)
    (v_VALUELESS : Vals [.str "flag", .str "count"] t_VALUELESS.toList)
    {aL : Addr} {o_LONE : Obj} {t_LONE : Array Value} {m_LONE : Nat}
    (g_LONE : PySem.W.nsIn K mainGlobals "LONE" = some (some (.ref aL)))
    (l_LONE : K.lookup aL = some o_LONE)
    (c_LONE : o_LONE.cls = .type "tuple")
    (d_LONE : o_LONE.data = .seq t_LONE m_LONE)
    (s_LONE : t_LONE.size ≤ sizeLine)
    (v_LONE : Vals [.str "flag", .str "count", .str "maybe"] t_LONE.toList) :
    ∀ base : Heap, K.In base → base.Ns mainGlobals mg → CalG l.prog w K mg base 7 "law" (spLaw09 K) := by
  have F0 : C8.Def K mg "made_of" s_made_of f0 _ := ⟨⟨_, _, _, _, _, _, _, _, _, _, rfl, l0, c0⟩, PySem.W.mg_of X G a0, k0⟩
  have b0 := F0.fn.binds rfl (ps := ["text", "signs"]) fun _ _ _ _ _ _ us hl => match us, hl with | [_, _], _ => rfl
  have F1 : C8.Def K mg "is_word" s_is_word f1 _ := ⟨⟨_, _, _, _, _, _, _, _, _, _, rfl, l1, c1⟩, PySem.W.mg_of X G a1, k1⟩
  have b1 := F1.fn.binds rfl (ps := ["thing"]) fun _ _ _ _ _ _ us hl => match us, hl with | [_], _ => rfl
  have F2 : C8.Def K mg "is_name" s_is_name f2 _ := ⟨⟨_, _, _, _, _, _, _, _, _, _, rfl, l2, c2⟩, PySem.W.mg_of X G a2, k2⟩
  have b2 := F2.fn.binds rfl (ps := ["thing"]) fun _ _ _ _ _ _ us hl => match us, hl with | [_], _ => rfl
  have F3 : C8.Def K mg "is_letter" s_is_letter f3 _ := ⟨⟨_, _, _, _, _, _, _, _, _, _, rfl, l3, c3⟩, PySem.W.mg_of X G a3, k3⟩
  have b3 := F3.fn.binds rfl (ps := ["thing"]) fun _ _ _ _ _ _ us hl => match us, hl with | [_], _ => rfl
  have F4 : C8.Def K mg "is_dashed" s_is_dashed f4 _ := ⟨⟨_, _, _, _, _, _, _, _, _, _, rfl, l4, c4⟩, PySem.W.mg_of X G a4, k4⟩
  have b4 := F4.fn.binds rfl (ps := ["word"]) fun _ _ _ _ _ _ us hl => match us, hl with | [_], _ => rfl
  have F5 : C8.Def K mg "is_number" s_is_number f5 _ := ⟨⟨_, _, _, _, _, _, _, _, _, _, rfl, l5, c5⟩, PySem.W.mg_of X G a5, k5⟩
  have b5 := F5.fn.binds rfl (ps := ["word"]) fun _ _ _ _ _ _ us hl => match us, hl with | [_], _ => rfl
  have F6 : C8.Def K mg "need_line" s_need_line f6 _ := ⟨⟨_, _, _, _, _, _, _, _, _, _, rfl, l6, c6⟩, PySem.W.mg_of X G a6, k6⟩
  have b6 := F6.fn.binds rfl (ps := ["thing"]) fun _ _ _ _ _ _ us hl => match us, hl with | [_], _ => rfl
  have F7 : C8.Def K mg "is_one_of" s_is_one_of f7 _ := ⟨⟨_, _, _, _, _, _, _, _, _, _, rfl, l7, c7⟩, PySem.W.mg_of X G a7, k7⟩
  have b7 := F7.fn.binds rfl (ps := ["thing", "words"]) fun _ _ _ _ _ _ us hl => match us, hl with | [_, _], _ => rfl
  have F8 : C8.Def K mg "is_tuple_of" s_is_tuple_of f8 _ := ⟨⟨_, _, _, _, _, _, _, _, _, _, rfl, l8, c8⟩, PySem.W.mg_of X G a8, k8⟩
  have b8 := F8.fn.binds rfl (ps := ["thing", "count"]) fun _ _ _ _ _ _ us hl => match us, hl with | [_, _], _ => rfl
  have F9 : C8.Def K mg "is_option" s_is_option f9 _ := ⟨⟨_, _, _, _, _, _, _, _, _, _, rfl, l9, c9⟩, PySem.W.mg_of X G a9, k9⟩
  have b9 := F9.fn.binds rfl (ps := ["thing"]) fun _ _ _ _ _ _ us hl => match us, hl with | [_], _ => rfl
  have F10 : C8.Def K mg "is_place" s_is_place f10 _ := ⟨⟨_, _, _, _, _, _, _, _, _, _, rfl, l10, c10⟩, PySem.W.mg_of X G a10, k10⟩
  have b10 := F10.fn.binds rfl (ps := ["thing"]) fun _ _ _ _ _ _ us hl => match us, hl with | [_], _ => rfl
  have F11 : C8.Def K mg "need_options" s_need_options f11 _ := ⟨⟨_, _, _, _, _, _, _, _, _, _, rfl, l11, c11⟩, PySem.W.mg_of X G a11, k11⟩
  have b11 := F11.fn.binds rfl (ps := ["options"]) fun _ _ _ _ _ _ us hl => match us, hl with | [_], _ => rfl
  have F12 : C8.Def K mg "need_places" s_need_places f12 _ := ⟨⟨_, _, _, _, _, _, _, _, _, _, rfl, l12, c12⟩, PySem.W.mg_of X G a12, k12⟩
  have b12 := F12.fn.binds rfl (ps := ["places"]) fun _ _ _ _ _ _ us hl => match us, hl with | [_], _ => rfl
  have F13 : C8.Def K mg "need_modes" s_need_modes f13 _ := ⟨⟨_, _, _, _, _, _, _, _, _, _, rfl, l13, c13⟩, PySem.W.mg_of X G a13, k13⟩
  have b13 := F13.fn.binds rfl (ps := ["modes"]) fun _ _ _ _ _ _ us hl => match us, hl with | [_], _ => rfl
  have F14 : C8.Def K mg "need_grammar" s_need_grammar f14 _ := ⟨⟨_, _, _, _, _, _, _, _, _, _, rfl, l14, c14⟩, PySem.W.mg_of X G a14, k14⟩
  have b14 := F14.fn.binds rfl (ps := ["thing"]) fun _ _ _ _ _ _ us hl => match us, hl with | [_], _ => rfl
  have F15 : C8.Def K mg "only_beginnings" s_only_beginnings f15 _ := ⟨⟨_, _, _, _, _, _, _, _, _, _, rfl, l15, c15⟩, PySem.W.mg_of X G a15, k15⟩
  have b15 := F15.fn.binds rfl (ps := ["names"]) fun _ _ _ _ _ _ us hl => match us, hl with | [_], _ => rfl
  have F16 : C8.Def K mg "told_names" s_told_names f16 _ := ⟨⟨_, _, _, _, _, _, _, _, _, _, rfl, l16, c16⟩, PySem.W.mg_of X G a16, k16⟩
  have b16 := F16.fn.binds rfl (ps := ["grammar"]) fun _ _ _ _ _ _ us hl => match us, hl with | [_], _ => rfl
  have F17 : C8.Def K mg "reads_numbers" s_reads_numbers f17 _ := ⟨⟨_, _, _, _, _, _, _, _, _, _, rfl, l17, c17⟩, PySem.W.mg_of X G a17, k17⟩
  have b17 := F17.fn.binds rfl (ps := ["grammar"]) fun _ _ _ _ _ _ us hl => match us, hl with | [_], _ => rfl
  have F18 : C8.Def K mg "count_arity" s_count_arity f18 _ := ⟨⟨_, _, _, _, _, _, _, _, _, _, rfl, l18, c18⟩, PySem.W.mg_of X G a18, k18⟩
  have b18 := F18.fn.binds rfl (ps := ["places", "arity"]) fun _ _ _ _ _ _ us hl => match us, hl with | [_, _], _ => rfl
  have F19 : C8.Def K mg "shares" s_shares f19 _ := ⟨⟨_, _, _, _, _, _, _, _, _, _, rfl, l19, c19⟩, PySem.W.mg_of X G a19, k19⟩
  have b19 := F19.fn.binds rfl (ps := ["places", "count"]) fun _ _ _ _ _ _ us hl => match us, hl with | [_, _], _ => rfl
  have F20 : C8.Def K mg "reading_of" s_reading_of f20 _ := ⟨⟨_, _, _, _, _, _, _, _, _, _, rfl, l20, c20⟩, PySem.W.mg_of X G a20, k20⟩
  have b20 := F20.fn.binds rfl (ps := ["grammar", "words"]) fun _ _ _ _ _ _ us hl => match us, hl with | [_, _], _ => rfl
  have F21 : C8.Def K mg "lasts" s_lasts f21 _ := ⟨⟨_, _, _, _, _, _, _, _, _, _, rfl, l21, c21⟩, PySem.W.mg_of X G a21, k21⟩
  have b21 := F21.fn.binds rfl (ps := ["grammar", "line"]) fun _ _ _ _ _ _ us hl => match us, hl with | [_, _], _ => rfl
  have F22 : C8.Def K mg "_law_mixed" s_law_mixed f22 _ := ⟨⟨_, _, _, _, _, _, _, _, _, _, rfl, l22, c22⟩, PySem.W.mg_of X G a22, k22⟩
  have b22 := F22.fn.binds rfl (ps := ["cell", "k"]) fun _ _ _ _ _ _ us hl => match us, hl with | [_, _], _ => rfl
  have F23 : C8.Def K mg "_law_begin" s_law_begin f23 _ := ⟨⟨_, _, _, _, _, _, _, _, _, _, rfl, l23, c23⟩, PySem.W.mg_of X G a23, k23⟩
  have b23 := F23.fn.binds rfl (ps := ["script"]) fun _ _ _ _ _ _ us hl => match us, hl with | [_], _ => rfl
  have F24 : C8.Def K mg "_law_draw" s_law_draw f24 _ := ⟨⟨_, _, _, _, _, _, _, _, _, _, rfl, l24, c24⟩, PySem.W.mg_of X G a24, k24⟩
  have b24 := F24.fn.binds rfl (ps := ["state", "many"]) fun _ _ _ _ _ _ us hl => match us, hl with | [_, _], _ => rfl
  have F25 : C8.Def K mg "_law_rows" s_law_rows f25 _ := ⟨⟨_, _, _, _, _, _, _, _, _, _, rfl, l25, c25⟩, PySem.W.mg_of X G a25, k25⟩
  have b25 := F25.fn.binds rfl (ps := ["one", "other", "short", "value"]) fun _ _ _ _ _ _ us hl => match us, hl with | [_, _, _, _], _ => rfl
  have F26 : C8.Def K mg "law" s_law f26 _ := ⟨⟨_, _, _, _, _, _, _, _, _, _, rfl, l26, c26⟩, PySem.W.mg_of X G a26, k26⟩
  have b26 := F26.fn.binds rfl (ps := ["script"]) fun _ _ _ _ _ _ us hl => match us, hl with | [_], _ => rfl
  have F50 : C8.Fun K "__init__" "Reading.__init__" s_init f50 _ := ⟨_, _, _, _, _, _, _, _, _, _, rfl, l50, c50⟩
  have b50 := F50.binds rfl (ps := ["self", "grammar"]) fun _ _ _ _ _ _ us hl => match us, hl with | [_, _], _ => rfl
  have M50 : Meth K C "__init__" f50 := ⟨a50, i50, k50⟩
  have F51 : C8.Fun K "read_word" "Reading.read_word" s_read_word f51 _ := ⟨_, _, _, _, _, _, _, _, _, _, rfl, l51, c51⟩
  have b51 := F51.binds rfl (ps := ["self", "word"]) fun _ _ _ _ _ _ us hl => match us, hl with | [_, _], _ => rfl
  have M51 : Meth K C "read_word" f51 := ⟨a51, i51, k51⟩
  have F52 : C8.Fun K "read_place_word" "Reading.read_place_word" s_read_place_word f52 _ := ⟨_, _, _, _, _, _, _, _, _, _, rfl, l52, c52⟩
  have b52 := F52.binds rfl (ps := ["self", "word"]) fun _ _ _ _ _ _ us hl => match us, hl with | [_, _], _ => rfl
  have M52 : Meth K C "read_place_word" f52 := ⟨a52, i52, k52⟩
  have F53 : C8.Fun K "read_long" "Reading.read_long" s_read_long f53 _ := ⟨_, _, _, _, _, _, _, _, _, _, rfl, l53, c53⟩
  have b53 := F53.binds rfl (ps := ["self", "word"]) fun _ _ _ _ _ _ us hl => match us, hl with | [_, _], _ => rfl
  have M53 : Meth K C "read_long" f53 := ⟨a53, i53, k53⟩
  have F54 : C8.Fun K "read_letters" "Reading.read_letters" s_read_letters f54 _ := ⟨_, _, _, _, _, _, _, _, _, _, rfl, l54, c54⟩
  have b54 := F54.binds rfl (ps := ["self", "word"]) fun _ _ _ _ _ _ us hl => match us, hl with | [_, _], _ => rfl
  have M54 : Meth K C "read_letters" f54 := ⟨a54, i54, k54⟩
  have F55 : C8.Fun K "give_or_await" "Reading.give_or_await" s_give_or_await f55 _ := ⟨_, _, _, _, _, _, _, _, _, _, rfl, l55, c55⟩
  have b55 := F55.binds rfl (ps := ["self", "name"]) fun _ _ _ _ _ _ us hl => match us, hl with | [_, _], _ => rfl
  have M55 : Meth K C "give_or_await" f55 := ⟨a55, i55, k55⟩
  have F56 : C8.Fun K "give" "Reading.give" s_give f56 _ := ⟨_, _, _, _, _, _, _, _, _, _, rfl, l56, c56⟩
  have b56 := F56.binds rfl (ps := ["self", "name", "what"]) fun _ _ _ _ _ _ us hl => match us, hl with | [_, _, _], _ => rfl
  have M56 : Meth K C "give" f56 := ⟨a56, i56, k56⟩
  have B : Blt mg := ⟨PySem.W.mg_none_of X G z_int, PySem.W.mg_none_of X G z_len, PySem.W.mg_none_of X G z_list, PySem.W.mg_none_of X G z_tuple, PySem.W.mg_none_of X G z_range, PySem.W.mg_none_of X G z_enumerate, PySem.W.mg_none_of X G z_isinstance, PySem.W.mg_none_of X G z_all, PySem.W.mg_none_of X G z_any, PySem.W.mg_none_of X G z_max, PySem.W.mg_none_of X G z_repr, PySem.W.mg_none_of X G z_str, PySem.W.mg_none_of X G z_bool⟩
  have T : Csts K mg aK aA aV aL := ⟨⟨_, PySem.W.mg_of X G g_MOST_SIGNS, r_MOST_SIGNS⟩, ⟨_, PySem.W.mg_of X G g_MOST_WORDS, r_MOST_WORDS⟩, ⟨_, PySem.W.mg_of X G g_LEAST_NAME, r_LEAST_NAME⟩, ⟨_, PySem.W.mg_of X G g_MOST_NAME, r_MOST_NAME⟩, ⟨_, PySem.W.mg_of X G g_MOST_OPTIONS, r_MOST_OPTIONS⟩, ⟨_, PySem.W.mg_of X G g_MOST_PLACES, r_MOST_PLACES⟩, ⟨_, PySem.W.mg_of X G g_FIGURES, r_FIGURES⟩, ⟨_, PySem.W.mg_of X G g_LETTERS, r_LETTERS⟩, ⟨_, PySem.W.mg_of X G g_NAME_SIGNS, r_NAME_SIGNS⟩, ⟨_, PySem.W.mg_of X G g_SIGNS, r_SIGNS⟩, ⟨_, PySem.W.mg_of X G g_KINDS, rfl⟩, ⟨_, PySem.W.mg_of X G g_ARITIES, rfl⟩, ⟨_, PySem.W.mg_of X G g_VALUELESS, rfl⟩, ⟨_, PySem.W.mg_of X G g_LONE, rfl⟩, fun _ => .inr ⟨_, _, _, l_KINDS, c_KINDS, d_KINDS, s_KINDS, v_KINDS⟩, fun _ => .inr ⟨_, _, _, l_ARITIES, c_ARITIES, d_ARITIES, s_ARITIES, v_ARITIES⟩, fun _ => .inr ⟨_, _, _, l_VALUELESS, c_VALUELESS, d_VALUELESS, s_VALUELESS, v_VALUELESS⟩, fun _ => .inr ⟨_, _, _, l_LONE, c_LONE, d_LONE, s_LONE, v_LONE⟩⟩
  have T' : RdC K C := ⟨⟨pg, hd, po, sa⟩, n_told, n_kinds, n_letters, n_places, n_mixed, n_minus, n_closed, n_awaited, n_refused, n_lasting, n_got, n_placed⟩
  intro base _ _
  have C_made_of := ok_made (P := l.prog) (w := w) (base := base) F0 b0 B
  have C_is_word := ok_word (P := l.prog) (w := w) (base := base) F1 b1 B T C_made_of
  have C_is_name := ok_name (P := l.prog) (w := w) (base := base) F2 b2 B T C_made_of
  have C_is_letter := ok_letter (P := l.prog) (w := w) (base := base) F3 b3 B T C_made_of
  have C_is_dashed := ok_dashed (P := l.prog) (w := w) (base := base) F4 b4 B
  have C_is_number := ok_number (P := l.prog) (w := w) (base := base) F5 b5 B T C_made_of C_is_dashed
  have C_is_one_of := ok_oneOf (P := l.prog) (w := w) (base := base) F7 b7 B
  have C_is_tuple_of := ok_tupOf (P := l.prog) (w := w) (base := base) F8 b8 B
  have C_need_line := ok_needLine (P := l.prog) (w := w) (base := base) F6 b6 B T C_is_word
  have C_is_option := ok_option (P := l.prog) (w := w) (base := base) F9 b9 B T C_is_tuple_of C_is_name C_is_letter C_is_one_of
  have C_is_place := ok_place (P := l.prog) (w := w) (base := base) F10 b10 B T C_is_tuple_of C_is_name C_is_one_of
  have C_need_options := ok_needOpts (P := l.prog) (w := w) (base := base) F11 b11 B T C_is_option
  have C_need_places := ok_needPls (P := l.prog) (w := w) (base := base) F12 b12 B T C_is_place
  have C_need_modes := ok_needModes (P := l.prog) (w := w) (base := base) F13 b13 B C_is_tuple_of
  have C_need_grammar := ok_needGr (P := l.prog) (w := w) (base := base) F14 b14 B C_is_tuple_of C_need_options C_need_places C_need_modes
  have C_only_beginnings := ok_only (P := l.prog) (w := w) (base := base) F15 b15 B
  have C_told_names := ok_told (P := l.prog) (w := w) (base := base) F16 b16 B C_only_beginnings
  have C_reads_numbers := ok_readsNum (P := l.prog) (w := w) (base := base) F17 b17 B T
  have C_count_arity := ok_countA (P := l.prog) (w := w) (base := base) F18 b18 B
  have C_shares := ok_shares (P := l.prog) (w := w) (base := base) F19 b19 B C_count_arity
  have M_give := ok_give (P := l.prog) (w := w) (base := base) (mg := mg) T' M56 F56 b56 B
  have M_give_or_await := ok_await (P := l.prog) (w := w) (base := base) (mg := mg) T' M55 F55 b55 B T M_give
  have M_read_place_word := ok_placeW (P := l.prog) (w := w) (base := base) (mg := mg) T' M52 F52 b52 B
  have M_read_long := ok_long (P := l.prog) (w := w) (base := base) (mg := mg) T' M53 F53 b53 B T M_give M_give_or_await
  have M_read_letters := ok_letters (P := l.prog) (w := w) (base := base) (mg := mg) T' M54 F54 b54 B T M_give M_give_or_await
  have M_read_word := ok_wordM (P := l.prog) (w := w) (base := base) (mg := mg) T' M51 F51 b51 B C_is_dashed C_is_number M_give M_read_place_word M_read_long M_read_letters
  have C_Reading := ok_initR (P := l.prog) (w := w) (base := base) T' ⟨mk, a50, i50, kc⟩ (PySem.W.mg_of X G aC) F50 b50 B C_told_names C_reads_numbers
  have C_reading_of := ok_readingOf (P := l.prog) (w := w) (base := base) T' F20 b20 B C_Reading C_shares M_read_word
  have C_lasts := ok_lasts (P := l.prog) (w := w) (base := base) T' F21 b21 B C_need_grammar C_need_line C_reading_of
  have C__law_mixed := ok_mixed (P := l.prog) (w := w) (base := base) F22 b22 B
  have C__law_begin := ok_begin (P := l.prog) (w := w) (base := base) F23 b23 B
  have C__law_draw := ok_draw (P := l.prog) (w := w) (base := base) F24 b24 B C__law_mixed
  have C__law_rows := ok_rows (P := l.prog) (w := w) (base := base) F25 b25 B
  exact ok_law F26 b26 B C__law_begin C__law_draw C__law_rows C_lasts
end K9

open PySem PySem.W PyProof.Rows
set_option Elab.async false
set_option maxRecDepth 100000 in
set_option maxHeartbeats 0 in
theorem PySem.Challenge.cw_keptlines_k09_lasting_by_hand_holds : PySem.Challenge.rw_keptlines_k09_lasting_by_hand.Holds := by
  w_on; o_law; k_head; (case hw => w_witness2)
  k_fill
  refine KL.walkg (l := PySem.Challenge.rw_keptlines_k09_lasting_by_hand) (n := 63) (k := 7) (sp := KL.spLaw09) rfl (by decide) rfl rfl ⟨rfl, by decide, by decide⟩ (fun w h Y => PySem.W.kIn_of Y) ?F (fun K H a ns hl hs => ⟨a, ns, rfl, hs, hl, fun _ => rfl⟩)
  case F =>
    intro w mg h KX G
    refine' K9.all_of KX G ?a0 ?l0 ?c0 ?k0 ?a1 ?l1 ?c1 ?k1 ?a2 ?l2 ?c2 ?k2 ?a3 ?l3 ?c3 ?k3 ?a4 ?l4 ?c4 ?k4 ?a5 ?l5 ?c5 ?k5 ?a6 ?l6 ?c6 ?k6 ?a7 ?l7 ?c7 ?k7 ?a8 ?l8 ?c8 ?k8 ?a9 ?l9 ?c9 ?k9 ?a10 ?l10 ?c10 ?k10 ?a11 ?l11 ?c11 ?k11 ?a12 ?l12 ?c12 ?k12 ?a13 ?l13 ?c13 ?k13 ?a14 ?l14 ?c14 ?k14 ?a15 ?l15 ?c15 ?k15 ?a16 ?l16 ?c16 ?k16 ?a17 ?l17 ?c17 ?k17 ?a18 ?l18 ?c18 ?k18 ?a19 ?l19 ?c19 ?k19 ?a20 ?l20 ?c20 ?k20 ?a21 ?l21 ?c21 ?k21 ?a22 ?l22 ?c22 ?k22 ?a23 ?l23 ?c23 ?k23 ?a24 ?l24 ?c24 ?k24 ?a25 ?l25 ?c25 ?k25 ?a26 ?l26 ?c26 ?k26 ?aC ?a50 ?i50 ?l50 ?c50 ?k50 ?a51 ?i51 ?l51 ?c51 ?k51 ?a52 ?i52 ?l52 ?c52 ?k52 ?a53 ?i53 ?l53 ?c53 ?k53 ?a54 ?i54 ?l54 ?c54 ?k54 ?a55 ?i55 ?l55 ?c55 ?k55 ?a56 ?i56 ?l56 ?c56 ?k56 ?pg ?hd ?po ?sa ?mk ?kc ?n_told ?n_kinds ?n_letters ?n_places ?n_mixed ?n_minus ?n_closed ?n_awaited ?n_refused ?n_lasting ?n_got ?n_placed ?z_int ?z_len ?z_list ?z_tuple ?z_range ?z_enumerate ?z_isinstance ?z_all ?z_any ?z_max ?z_repr ?z_str ?z_bool ?g_MOST_SIGNS ?r_MOST_SIGNS ?g_MOST_WORDS ?r_MOST_WORDS ?g_LEAST_NAME ?r_LEAST_NAME ?g_MOST_NAME ?r_MOST_NAME ?g_MOST_OPTIONS ?r_MOST_OPTIONS ?g_MOST_PLACES ?r_MOST_PLACES ?g_FIGURES ?r_FIGURES ?g_LETTERS ?r_LETTERS ?g_NAME_SIGNS ?r_NAME_SIGNS ?g_SIGNS ?r_SIGNS ?g_KINDS ?l_KINDS ?c_KINDS ?d_KINDS ?s_KINDS ?v_KINDS ?g_ARITIES ?l_ARITIES ?c_ARITIES ?d_ARITIES ?s_ARITIES ?v_ARITIES ?g_VALUELESS ?l_VALUELESS ?c_VALUELESS ?d_VALUELESS ?s_VALUELESS ?v_VALUELESS ?g_LONE ?l_LONE ?c_LONE ?d_LONE ?s_LONE ?v_LONE
    (case a0 => k_is); (case l0 => k_is); (case c0 => k_is); (case k0 => k_is); (case a1 => k_is); (case l1 => k_is)
    (case c1 => k_is); (case k1 => k_is); (case a2 => k_is); (case l2 => k_is); (case c2 => k_is); (case k2 => k_is)
    (case a3 => k_is); (case l3 => k_is); (case c3 => k_is); (case k3 => k_is); (case a4 => k_is); (case l4 => k_is)
    (case c4 => k_is); (case k4 => k_is); (case a5 => k_is); (case l5 => k_is); (case c5 => k_is); (case k5 => k_is)
    (case a6 => k_is); (case l6 => k_is); (case c6 => k_is); (case k6 => k_is); (case a7 => k_is); (case l7 => k_is)
    (case c7 => k_is); (case k7 => k_is); (case a8 => k_is); (case l8 => k_is); (case c8 => k_is); (case k8 => k_is)
    (case a9 => k_is); (case l9 => k_is); (case c9 => k_is); (case k9 => k_is); (case a10 => k_is); (case l10 => k_is)
    (case c10 => k_is); (case k10 => k_is); (case a11 => k_is); (case l11 => k_is); (case c11 => k_is); (case k11 => k_is)
    (case a12 => k_is); (case l12 => k_is); (case c12 => k_is); (case k12 => k_is); (case a13 => k_is); (case l13 => k_is)
    (case c13 => k_is); (case k13 => k_is); (case a14 => k_is); (case l14 => k_is); (case c14 => k_is); (case k14 => k_is)
    (case a15 => k_is); (case l15 => k_is); (case c15 => k_is); (case k15 => k_is); (case a16 => k_is); (case l16 => k_is)
    (case c16 => k_is); (case k16 => k_is); (case a17 => k_is); (case l17 => k_is); (case c17 => k_is); (case k17 => k_is)
    (case a18 => k_is); (case l18 => k_is); (case c18 => k_is); (case k18 => k_is); (case a19 => k_is); (case l19 => k_is)
    (case c19 => k_is); (case k19 => k_is); (case a20 => k_is); (case l20 => k_is); (case c20 => k_is); (case k20 => k_is)
    (case a21 => k_is); (case l21 => k_is); (case c21 => k_is); (case k21 => k_is); (case a22 => k_is); (case l22 => k_is)
    (case c22 => k_is); (case k22 => k_is); (case a23 => k_is); (case l23 => k_is); (case c23 => k_is); (case k23 => k_is)
    (case a24 => k_is); (case l24 => k_is); (case c24 => k_is); (case k24 => k_is); (case a25 => k_is); (case l25 => k_is)
    (case c25 => k_is); (case k25 => k_is); (case a26 => k_is); (case l26 => k_is); (case c26 => k_is); (case k26 => k_is)
    (case aC => k_is); (case a50 => k_is); (case i50 => k_is); (case l50 => k_is); (case c50 => k_is); (case k50 => k_is)
    (case a51 => k_is); (case i51 => k_is); (case l51 => k_is); (case c51 => k_is); (case k51 => k_is); (case a52 => k_is)
    (case i52 => k_is); (case l52 => k_is); (case c52 => k_is); (case k52 => k_is); (case a53 => k_is); (case i53 => k_is)
    (case l53 => k_is); (case c53 => k_is); (case k53 => k_is); (case a54 => k_is); (case i54 => k_is); (case l54 => k_is)
    (case c54 => k_is); (case k54 => k_is); (case a55 => k_is); (case i55 => k_is); (case l55 => k_is); (case c55 => k_is)
    (case k55 => k_is); (case a56 => k_is); (case i56 => k_is); (case l56 => k_is); (case c56 => k_is); (case k56 => k_is)
    (case pg => k_is); (case hd => k_is); (case po => k_is); (case sa => k_is); (case mk => k_is); (case kc => k_is)
    (case n_told => k_is); (case n_kinds => k_is); (case n_letters => k_is); (case n_places => k_is); (case n_mixed => k_is); (case n_minus => k_is)
    (case n_closed => k_is); (case n_awaited => k_is); (case n_refused => k_is); (case n_lasting => k_is); (case n_got => k_is); (case n_placed => k_is)
    (case z_int => k_is); (case z_len => k_is); (case z_list => k_is); (case z_tuple => k_is); (case z_range => k_is); (case z_enumerate => k_is)
    (case z_isinstance => k_is); (case z_all => k_is); (case z_any => k_is); (case z_max => k_is); (case z_repr => k_is); (case z_str => k_is)
    (case z_bool => k_is); (case g_MOST_SIGNS => k_is); (case r_MOST_SIGNS => exact ⟨_, rfl⟩); (case g_MOST_WORDS => k_is); (case r_MOST_WORDS => exact ⟨_, rfl⟩); (case g_LEAST_NAME => k_is)
    (case r_LEAST_NAME => exact ⟨_, rfl⟩); (case g_MOST_NAME => k_is); (case r_MOST_NAME => exact ⟨_, rfl⟩); (case g_MOST_OPTIONS => k_is); (case r_MOST_OPTIONS => exact ⟨_, rfl⟩); (case g_MOST_PLACES => k_is)
    (case r_MOST_PLACES => exact ⟨_, rfl⟩); (case g_FIGURES => k_is); (case r_FIGURES => exact ⟨_, rfl⟩); (case g_LETTERS => k_is); (case r_LETTERS => exact ⟨_, rfl⟩); (case g_NAME_SIGNS => k_is)
    (case r_NAME_SIGNS => exact ⟨_, rfl⟩); (case g_SIGNS => k_is); (case r_SIGNS => exact ⟨_, rfl⟩); (case g_KINDS => k_is); (case l_KINDS => k_is); (case c_KINDS => rfl)
    (case d_KINDS => rfl); (case s_KINDS => decide +kernel); (case v_KINDS => exact .cons ⟨_, rfl⟩ (.cons ⟨_, rfl⟩ (.cons ⟨_, rfl⟩ (.cons ⟨_, rfl⟩ (.cons ⟨_, rfl⟩ (.cons ⟨_, rfl⟩ (.nil))))))); (case g_ARITIES => k_is); (case l_ARITIES => k_is); (case c_ARITIES => rfl)
    (case d_ARITIES => rfl); (case s_ARITIES => decide +kernel); (case v_ARITIES => exact .cons ⟨_, rfl⟩ (.cons ⟨_, rfl⟩ (.cons ⟨_, rfl⟩ (.nil)))); (case g_VALUELESS => k_is); (case l_VALUELESS => k_is); (case c_VALUELESS => rfl)
    (case d_VALUELESS => rfl); (case s_VALUELESS => decide +kernel); (case v_VALUELESS => exact .cons ⟨_, rfl⟩ (.cons ⟨_, rfl⟩ (.nil))); (case g_LONE => k_is); (case l_LONE => k_is); (case c_LONE => rfl)
    (case d_LONE => rfl); (case s_LONE => decide +kernel); (case v_LONE => exact .cons ⟨_, rfl⟩ (.cons ⟨_, rfl⟩ (.cons ⟨_, rfl⟩ (.nil))))
#print axioms PySem.Challenge.cw_keptlines_k09_lasting_by_hand_holds
