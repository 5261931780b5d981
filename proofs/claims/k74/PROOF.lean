import PyProof.Rows.All
import Wide.All
import OpenK.AllK
import Wide.FinOn
import HandS.Base
import HandS.Call
import HandS.Ends
import HandS.Defaults
import HandS.Property
import HandS.Head0
import HandS.Head1
import HandS.Head2
import HandS.HeadEnd
import HandS.HeadHook1
import HandS.HeadHook2
import HandS.ForMost
import HandS.Wide
import HandS.Deep
import HandS.SortInts
import HandS.SortRule
import HandS.IsInst
import HandS.Conv
import HandS.TupSets
import PyProof.InstSpecial
import HandS.Iter
import HandS.Exc
import HandS.ExcOwn
import HandS.TryOnly
import HandS.Steps
import PyProof.InstNe
import HandS.Style
import PyProof.ReprRoads
import PyProof.ReprBulk
import PyProof.FitsInt
import HandS.ExcValue
import HandS.ExcIs
import PyProof.StrLawsTight
import PyProof.StrLawsChain
import PyProof.Rows.StrItems
import PyProof.Rows.ReprOcc
import PyProof.Rows.StrSplitAre
import KE.KIntText
import KE.IntTextLaws
import KE.OsScanText
import PyProof.Rows.SetFrom
import KE.KUnpackStar
import HandS.Text
import HandS.StrMore
import HandS.FStr
import HandS.SetFor
import HandS.Strs
import PyProof.EqLayable
import HandS.Comp
import HandS.SetBool
import HandS.TupLe
import KE.KSortAsk
import KE.KDictZip
import HandS.WordsExc
import PySem.Challenge.RW_ownhues_k74_lists_written_and_read
set_option Elab.async false
set_option linter.all false
set_option maxRecDepth 100000
set_option maxHeartbeats 0
set_option pp.maxSteps 500
set_option pp.proofs false
namespace G
open PySem PySem.Spec PyProof.Rows L2
/-! ### the head with properties: each is a datum -/
structure PrD where
  cls : Str
  name : Str
  qual : Str
  params : Arguments
  body : List Stmt
  scope : Scope
def pA (K : PySem.W.Frag) (q : PrD) : Addr := He.ma K (He.ga K q.cls) q.name
def pG (K : PySem.W.Frag) (q : PrD) : Addr := match PySem.W.recIn K (pA K q) "property" with
  | some (.ref g :: _) => g
  | _ => 0
def fnAt (K : PySem.W.Frag) (f : Addr) : He.FnW := match K.lookup f with
  | some ⟨_, _, .func fd, _⟩ => some (fd.name, fd.qualname, fd.params, fd.body, fd.scope, fd.globals, fd.closure, fd.builtins)
  | _ => none
def PrD.val (q : PrD) : He.FnW := some (q.name, q.qual, q.params, .stmts q.body, q.scope, mainGlobals, [], builtinsNs)
def PrD.rec_ (K : PySem.W.Frag) (q : PrD) : Bool := match PySem.W.recIn K (pA K q) "property" with
  | some (.ref _ :: _) => true
  | _ => false
def PrD.fn (K : PySem.W.Frag) (q : PrD) : Bool := match K.lookup (pG K q) with
  | some ⟨_, _, .func fd, _⟩ => PySem.W.codeIn K fd.code q.qual && (He.dflB K fd.defaults [] && He.kwdB K fd.kwdefaults [])
  | _ => false
def PrD.ok (K : PySem.W.Frag) (q : PrD) : Bool := He.eqO (PySem.W.findIn K (.ref (He.ga K q.cls)) q.name) (some (some (.ref (pA K q)))) && (He.eqO (PySem.W.specialIn K (.ref (pA K q)) "__get__") (some (some (.builtin "property.__get__"))) &&
  (decide (PySem.W.takesIn K (.ref (pA K q)) = some true) && (q.rec_ K && (PySem.W.keepIn K (.ref (pG K q)) && q.fn K))))
theorem PrD.all {K : PySem.W.Frag} {q : PrD} (e : fnAt K (pG K q) = q.val) (c : q.ok K = true) : PropOf K (He.ga K q.cls) q.name (pA K q) (pG K q) ∧ ∃ fd, FunD K q.name q.qual q.params q.body q.scope [] [] (pG K q) fd := by
  obtain ⟨h1, c⟩ := He.ba c
  obtain ⟨h2, c⟩ := He.ba c
  obtain ⟨h3, c⟩ := He.ba c
  obtain ⟨h4, c⟩ := He.ba c
  obtain ⟨kp, c2⟩ := He.ba c
  refine ⟨⟨He.eqO_ok h1, He.eqO_ok h2, of_decide_eq_true h3, ?_⟩, ?_⟩
  · unfold PrD.rec_ at h4
    unfold pG
    split at h4
    · rename_i g r hr
      rw [hr]
      exact ⟨r, rfl⟩
    · cases h4
  · unfold PrD.fn at c2
    unfold fnAt at e
    cases hq : K.lookup (pG K q) with
    | none =>
      rw [hq] at c2
      cases c2
    | some o =>
      obtain ⟨oc, od, dt, osl⟩ := o
      rw [hq] at c2 e
      cases dt with
      | func fd =>
        obtain ⟨n1, n2, n3, n4, n5, n6, n7, n8, n9, n10, n11, n12, n13, n14, n15⟩ := fd
        have e2 : (some (n1, n2, n3, n4, n5, n6, n7, n15) : He.FnW) = some (q.name, q.qual, q.params, .stmts q.body, q.scope, mainGlobals, [], builtinsNs) := e
        simp only [Option.some.injEq, Prod.mk.injEq] at e2
        obtain ⟨h1, h2, h3, h4, h5, h6, h7, h8⟩ := e2
        subst h1 h2 h3 h4 h5 h6 h7 h8
        have c3 : (PySem.W.codeIn K n13 q.qual && (He.dflB K n8 [] && He.kwdB K n9 [])) = true := c2
        obtain ⟨k1, k2⟩ := He.ba c3
        obtain ⟨k3, k4⟩ := He.ba k2
        exact ⟨_, ⟨oc, od, n8, n9, n10, n11, n12, n13, n14, osl, rfl, hq, k1, He.dflB_ok k3, He.kwdB_ok k4⟩, kp⟩
      | _ => cases c2
abbrev AlP : Type := He.AlD × He.AlD
def obsP (xf : PySem.W.Frag → Bool) (fa : List He.Fa) (fn : List He.DefD) (pr : List PrD) (K : PySem.W.Frag) : AlP := (He.obsD fa fn K, ((pr.all fun q => q.ok K) && xf K, pr.map fun q => fnAt K (pG K q)))
def valP (fn : List He.DefD) (pr : List PrD) : AlP := (He.valD fn, (true, pr.map PrD.val))
def obsPG (xf : PySem.W.Frag → Bool) (n : Nat) (fa : List He.Fa) (fn : List He.DefD) (pr : List PrD) (g : Addr → Option Obj) : AlP := obsP xf fa fn pr (He.frG g (sysModules :: He.asD g n))
def SaysP (xf : PySem.W.Frag → Bool) (fa : List He.Fa) (fn : List He.DefD) (pr : List PrD) (K : PySem.W.Frag) : Prop := obsP xf fa fn pr K = valP fn pr
def hookP (xf : PySem.W.Frag → Bool) (n : Nat) (fa : List He.Fa) (fn : List He.DefD) (pr : List PrD) : PySem.W.Hook where
  α := AlP
  obs := fun s => obsPG xf n fa fn pr s.heap.get?
  val := fun _ => valP fn pr
  says := fun _ h => ∃ K : PySem.W.Frag, K.In h ∧ SaysP xf fa fn pr K
  of := fun _ _ e => ⟨_, He.frG_in, e⟩
  keeps := fun _ _ _ ⟨K, hK, c⟩ k => ⟨K, PySem.W.Frag.In.keeps hK k, c⟩
theorem obsPG_eq {xf : PySem.W.Frag → Bool} {n : Nat} {fa : List He.Fa} {fn : List He.DefD} {pr : List PrD} {g : Addr → Option Obj} {s : Shared} (h : ∀ a, g a = s.heap.get? a) : obsPG xf n fa fn pr g = (hookP xf n fa fn pr).obs s := by
  have e : g = s.heap.get? := funext h
  rw [e] <;> rfl
theorem SaysP.d {xf : PySem.W.Frag → Bool} {fa : List He.Fa} {fn : List He.DefD} {pr : List PrD} {K : PySem.W.Frag} (c : SaysP xf fa fn pr K) : He.SaysD fa fn K := congrArg (fun z : AlP => z.1) c
theorem SaysP.p {xf : PySem.W.Frag → Bool} {fa : List He.Fa} {fn : List He.DefD} {pr : List PrD} {K : PySem.W.Frag} (c : SaysP xf fa fn pr K) (i : Nat) {q : PrD} (h : pr[i]? = some q) :
    PropOf K (He.ga K q.cls) q.name (pA K q) (pG K q) ∧ ∃ fd, FunD K q.name q.qual q.params q.body q.scope [] [] (pG K q) fd := by
  have c2 : (pr.all fun q => q.ok K) = true := (He.ba (show ((pr.all fun q => q.ok K) && xf K) = true from congrArg (fun z : AlP => z.2.1) c)).1
  have e : pr.map (fun q => fnAt K (pG K q)) = pr.map PrD.val := congrArg (fun z : AlP => z.2.2) c
  have e2 : (pr.map fun q => fnAt K (pG K q))[i]? = (pr.map PrD.val)[i]? := by rw [e]
  rw [List.getElem?_map, List.getElem?_map, h] at e2
  exact PrD.all (Option.some.inj e2) (List.all_eq_true.mp c2 q (List.mem_of_getElem? h))
theorem SaysP.x {xf : PySem.W.Frag → Bool} {fa : List He.Fa} {fn : List He.DefD} {pr : List PrD} {K : PySem.W.Frag} (c : SaysP xf fa fn pr K) : xf K = true := (He.ba (show ((pr.all fun q => q.ok K) && xf K) = true from congrArg (fun z : AlP => z.2.1) c)).2
end G

/-! A small logic over the readings: slots hold assertions, each with a region of its own (a colour). 0 what stands still, 1 the frame, 2 what an expression has made, i + 3 the slot i's own. -/
namespace G
open PySem L2

abbrev Col := Addr → Nat
def vw (ω : Col) (H : Hp) (c : Nat) : Hp := fun b => if ω b = c then H b else none
theorem vw_iff {ω : Col} {H : Hp} {c : Nat} {a : Addr} {o : HO} : vw ω H c a = some o ↔ ω a = c ∧ H a = some o := by
  unfold vw
  by_cases h : ω a = c
  · rw [if_pos h]; exact ⟨fun e => ⟨h, e⟩, fun e => e.2⟩
  · rw [if_neg h]; exact ⟨(fun e => nomatch e), (fun e => absurd e.1 h)⟩
theorem vw_mk {ω : Col} {H : Hp} {c : Nat} {a : Addr} {o : HO} (h : ω a = c) (e : H a = some o) : vw ω H c a = some o := vw_iff.mpr ⟨h, e⟩
theorem vw_H {ω : Col} {H : Hp} {c : Nat} {a : Addr} {o : HO} (e : vw ω H c a = some o) : H a = some o := (vw_iff.mp e).2
theorem vw_c {ω : Col} {H : Hp} {c : Nat} {a : Addr} {o : HO} (e : vw ω H c a = some o) : ω a = c := (vw_iff.mp e).1

/-! ### data in the heap, its lists tracked -/
mutual
inductive DR (H : Hp) : V → PyData → Prop
  | non : DR H .non .none
  | bl (b : Bool) : DR H (.bl b) (.bool b)
  | int (i : Int) : DR H (.int i) (.int i)
  | str (x : Str) : DR H (.str x) (.str x)
  | lst {a : Addr} {xs : List V} {ds : List PyData} : H a = some (.lst xs) → DRs H xs ds → DR H (.ref a) (.list ds)
  | tup {a : Addr} {xs : List V} {ds : List PyData} : H a = some (.tup xs) → DRs H xs ds → DR H (.ref a) (.tuple ds)
  | dic {a : Addr} {ps : List (Int × Int)} : H a = some (.dK (ps.map fun p => (Sum.inl p.1, V.int p.2))) → DR H (.ref a) (.dict (ps.map fun p => (.int p.1, .int p.2)))
inductive DRs (H : Hp) : List V → List PyData → Prop
  | nil : DRs H [] []
  | cons {v : V} {vs : List V} {d : PyData} {ds : List PyData} : DR H v d → DRs H vs ds → DRs H (v :: vs) (d :: ds)
end
mutual
theorem DR.mono {H H' : Hp} (s : Same H H') : ∀ (d : PyData) {v : V}, DR H v d → DR H' v d
  | .none, _, h => by cases h; exact .non
  | .bool b, _, h => by cases h; exact .bl b
  | .int i, _, h => by cases h; exact .int i
  | .str x, _, h => by cases h; exact .str x
  | .list ds, _, h => by cases h with | lst e t => exact .lst (s _ _ e) (DRs.mono s ds t)
  | .tuple ds, _, h => by cases h with | tup e t => exact .tup (s _ _ e) (DRs.mono s ds t)
  | .dict _, _, h => by cases h with | dic e => exact .dic (s _ _ e)
theorem DRs.mono {H H' : Hp} (s : Same H H') : ∀ (ds : List PyData) {vs : List V}, DRs H vs ds → DRs H' vs ds
  | [], _, h => by cases h; exact .nil
  | d :: ds, _, h => by cases h with | cons a b => exact .cons (DR.mono s d a) (DRs.mono s ds b)
end
mutual
theorem DR.dp {K : PySem.W.Frag} {H : Hp} : ∀ (d : PyData) {v : V}, d.canLay0 = true → DR H v d → Dp K H v d
  | .none, _, _, h => by cases h; exact .non
  | .bool b, _, _, h => by cases h; exact .bl b
  | .int i, _, _, h => by cases h; exact .int i
  | .str x, _, _, h => by cases h; exact .str x
  | .list ds, _, l, h => by cases h with | lst e t => exact .lst (SqL.of e) (DRs.dp ds l t)
  | .tuple ds, _, l, h => by cases h with | tup e t => exact .tup (SqT.of e) (DRs.dp ds l t)
  | .dict _, _, l, _ => Bool.noConfusion l
theorem DRs.dp {K : PySem.W.Frag} {H : Hp} : ∀ (ds : List PyData) {vs : List V}, PyData.canLayAll0 ds = true → DRs H vs ds → DpAll K H vs ds
  | [], _, _, h => by cases h; exact .nil
  | d :: ds, _, l, h => by
    obtain ⟨l1, l2⟩ := Bool.and_eq_true_iff.mp (show (d.canLay0 && PyData.canLayAll0 ds) = true from l)
    cases h with | cons a b => exact .cons (DR.dp d l1 a) (DRs.dp ds l2 b)
end
section
variable {K : PySem.W.Frag} {H : Hp}
theorem DRs.length : ∀ {ds : List PyData} {vs : List V}, DRs H vs ds → vs.length = ds.length
  | [], _, h => by cases h; rfl
  | d :: ds, _, h => by cases h with | cons a b => simp [DRs.length b]
theorem DRs.get : ∀ {ds : List PyData} {vs : List V} {i : Nat} {v : V}, DRs H vs ds → vs[i]? = some v → ∃ d, ds[i]? = some d ∧ DR H v d
  | [], _, _, _, h, e => by cases h; simp at e
  | d :: ds, _, 0, _, h, e => by cases h with | cons a b => simp at e; subst e; exact ⟨d, rfl, a⟩
  | d :: ds, _, i + 1, _, h, e => by cases h with | cons a b => exact DRs.get (i := i) b (by simpa using e)
theorem DRs.at : ∀ {ds : List PyData} {vs : List V} {i : Nat} {d : PyData}, DRs H vs ds → ds[i]? = some d → ∃ v, vs[i]? = some v ∧ DR H v d
  | [], _, _, _, h, e => by simp at e
  | d :: ds, _, 0, _, h, e => by cases h with | cons a b => simp at e; subst e; exact ⟨_, rfl, a⟩
  | d :: ds, _, i + 1, _, h, e => by cases h with | cons a b => exact DRs.at (i := i) b (by simpa using e)
theorem DRs.append : ∀ {ds es : List PyData} {vs ws : List V}, DRs H vs ds → DRs H ws es → DRs H (vs ++ ws) (ds ++ es)
  | [], _, _, _, h, h' => by cases h; exact h'
  | d :: ds, _, _, _, h, h' => by cases h with | cons a b => exact .cons a (DRs.append b h')
theorem DRs.snoc {ds : List PyData} {d : PyData} {vs : List V} {v : V} (h : DRs H vs ds) (h' : DR H v d) : DRs H (vs ++ [v]) (ds ++ [d]) := h.append (.cons h' .nil)
theorem DRs.drop : ∀ {ds : List PyData} {vs : List V} (n : Nat), DRs H vs ds → DRs H (vs.drop n) (ds.drop n)
  | _, _, 0, h => h
  | [], _, n + 1, h => by cases h; exact .nil
  | d :: ds, _, n + 1, h => by cases h with | cons a b => exact DRs.drop n b
theorem DRs.take : ∀ {ds : List PyData} {vs : List V} (n : Nat), DRs H vs ds → DRs H (vs.take n) (ds.take n)
  | _, _, 0, h => .nil
  | [], _, n + 1, h => by cases h; exact .nil
  | d :: ds, _, n + 1, h => by cases h with | cons a b => exact .cons a (DRs.take n b)
theorem DRs.erase : ∀ {ds : List PyData} {vs : List V} (n : Nat), DRs H vs ds → DRs H (vs.eraseIdx n) (ds.eraseIdx n)
  | [], _, _, h => by cases h; simp; exact .nil
  | d :: ds, _, 0, h => by cases h with | cons a b => exact b
  | d :: ds, _, n + 1, h => by cases h with | cons a b => exact .cons a (DRs.erase n b)
theorem DRs.set : ∀ {ds : List PyData} {vs : List V} (n : Nat) {d : PyData} {v : V}, DRs H vs ds → DR H v d → DRs H (vs.set n v) (ds.set n d)
  | [], _, _, _, _, h, _ => by cases h; exact .nil
  | d :: ds, _, 0, _, _, h, h' => by cases h with | cons a b => exact .cons h' b
  | d :: ds, _, n + 1, _, _, h, h' => by cases h with | cons a b => exact .cons a (DRs.set n b h')
theorem DRs.reverse : ∀ {ds : List PyData} {vs : List V}, DRs H vs ds → DRs H vs.reverse ds.reverse
  | [], _, h => by cases h; exact .nil
  | d :: ds, _, h => by cases h with | cons a b => simp only [List.reverse_cons]; exact (DRs.reverse b).snoc a
theorem DRs.ints : ∀ {ns : List Int} {vs : List V}, DRs H vs (ns.map PyData.int) → vs = ns.map V.int
  | [], _, h => by cases h; rfl
  | n :: ns, _, h => by
    cases h with | cons a b => cases a; rw [DRs.ints b]; rfl
theorem DRs.of_ints : ∀ {ns : List Int}, DRs H (ns.map V.int) (ns.map PyData.int)
  | [] => .nil
  | n :: ns => .cons (.int n) DRs.of_ints
theorem DR.int_inv {v : V} {i : Int} (h : DR H v (.int i)) : v = .int i := by cases h; rfl
theorem DR.bl_inv {v : V} {b : Bool} (h : DR H v (.bool b)) : v = .bl b := by cases h; rfl
theorem DR.str_inv {v : V} {b : Str} (h : DR H v (.str b)) : v = .str b := by cases h; rfl
theorem DR.non_inv {v : V} (h : DR H v .none) : v = .non := by cases h; rfl
theorem DR.lst_inv {v : V} {ds : List PyData} (h : DR H v (.list ds)) : ∃ a xs, v = .ref a ∧ H a = some (.lst xs) ∧ DRs H xs ds := by
  cases h with | lst e t => exact ⟨_, _, rfl, e, t⟩
theorem DR.tup_inv {v : V} {ds : List PyData} (h : DR H v (.tuple ds)) : ∃ a xs, v = .ref a ∧ H a = some (.tup xs) ∧ DRs H xs ds := by
  cases h with | tup e t => exact ⟨_, _, rfl, e, t⟩
end

/-! ### what a slot holds -/
structure Gp where
  p : Hp → V → Hp → Prop
  mono : ∀ {A A' : Hp} {v : V} {R R' : Hp}, Same A A' → Same R R' → p A v R → p A' v R'
/-- what stands still -/
structure Per where
  q : Hp → V → Prop
  mono : ∀ {A A' : Hp} {v : V}, Same A A' → q A v → q A' v
def per (q : Per) : Gp := ⟨fun A v _ => q.q A v, fun a _ h => q.mono a h⟩
def dP (d : PyData) : Per := ⟨fun A v => DR A v d, fun a h => h.mono a⟩
abbrev dat (d : PyData) : Gp := per (dP d)
/-- a list of one's own, of data that stands still -/
def own (ds : List PyData) : Gp := ⟨fun A v R => ∃ a vs, v = .ref a ∧ R a = some (.lst vs) ∧ DRs A vs ds,
  fun a r ⟨x, vs, e, h, t⟩ => ⟨x, vs, e, r _ _ h, t.mono a⟩⟩
abbrev Ga := List (Option Gp)
def Sta (Γ : Ga) (ω : Col) (σ : L2.St) (H : Hp) : Prop := σ.length = Γ.length ∧ ∀ (i : Nat) (g : Gp), Γ[i]? = some (some g) → ∃ v, σ[i]? = some (some v) ∧ g.p (vw ω H 0) v (vw ω H (i + 3))
def Fr (ω ω' : Col) (H H' : Hp) : Prop := Same (vw ω H 0) (vw ω' H' 0) ∧ Same (vw ω H 1) (vw ω' H' 1)
theorem Fr.refl {ω : Col} {H : Hp} : Fr ω ω H H := ⟨Same.refl _, Same.refl _⟩
theorem Fr.trans {ω ω1 ω2 : Col} {H H1 H2 : Hp} (a : Fr ω ω1 H H1) (b : Fr ω1 ω2 H1 H2) : Fr ω ω2 H H2 := ⟨a.1.trans b.1, a.2.trans b.2⟩

/-! ### expressions -/
def WE (te : TE) (Γ : Ga) (k : Gp → Ga → Prop) : Prop := ∀ ω σ H, Sta Γ ω σ H → ∀ Q : VK,
  (∀ v g Γ' ω' H', k g Γ' → Sta Γ' ω' σ H' → g.p (vw ω' H' 0) v (vw ω' H' 2) → Fr ω ω' H H' → Q v H') → te σ H Q
def WQ (te : TE) (Γ : Ga) (k : Per → Ga → Prop) : Prop := ∀ ω σ H, Sta Γ ω σ H → ∀ Q : VK,
  (∀ v q Γ' ω' H', k q Γ' → Sta Γ' ω' σ H' → q.q (vw ω' H' 0) v → Fr ω ω' H H' → Q v H') → te σ H Q
def WT (tt : TT) (Γ : Ga) (k : Bool → Ga → Prop) : Prop := ∀ ω σ H, Sta Γ ω σ H → ∀ Q : Bool → Hp → Prop,
  (∀ b Γ' ω' H', k b Γ' → Sta Γ' ω' σ H' → Fr ω ω' H H' → Q b H') → tt σ H Q
inductive Arg where
  | s (i : Nat)
  | q (q : Per)
def ArgOk (σ : L2.St) (A : Hp) : Arg → V → Prop
  | .s i, v => σ[i]? = some (some v)
  | .q q, v => q.q A v
theorem ArgOk.mono {σ : L2.St} {A A' : Hp} (s : Same A A') : ∀ {a : Arg} {v : V}, ArgOk σ A a v → ArgOk σ A' a v
  | .s _, _, h => h
  | .q q, _, h => q.mono s h
inductive ArgsOk (σ : L2.St) (A : Hp) : List Arg → List V → Prop
  | nil : ArgsOk σ A [] []
  | cons {a : Arg} {as : List Arg} {v : V} {vs : List V} : ArgOk σ A a v → ArgsOk σ A as vs → ArgsOk σ A (a :: as) (v :: vs)
theorem ArgsOk.mono {σ : L2.St} {A A' : Hp} (s : Same A A') : ∀ {as : List Arg} {vs : List V}, ArgsOk σ A as vs → ArgsOk σ A' as vs
  | [], _, h => by cases h; exact .nil
  | a :: as, _, h => by cases h with | cons x y => exact .cons (x.mono s) (ArgsOk.mono s y)
def WA (ta : TA) (Γ : Ga) (k : List Arg → Ga → Prop) : Prop := ∀ ω σ H, Sta Γ ω σ H → ∀ Q : List V → Hp → Prop,
  (∀ vs as Γ' ω' H', k as Γ' → Sta Γ' ω' σ H' → ArgsOk σ (vw ω' H' 0) as vs → Fr ω ω' H H' → Q vs H') → ta σ H Q
/-- g may be shut: it stands still from now on -/
def Frz (g : Gp) (q : Per) : Prop := ∀ A v R A', Same A A' → Same R A' → g.p A v R → q.q A' v
theorem frz_per {q : Per} : Frz (per q) q := fun _ _ _ _ a _ h => q.mono a h
theorem frz_own {ds : List PyData} : Frz (own ds) (dP (.list ds)) := fun _ _ _ _ a r ⟨x, vs, e, h, t⟩ => by
  subst e
  exact .lst (r _ _ h) (t.mono a)

/-- recolouring c to 0 -/
def shut (ω : Col) (c : Nat) : Col := fun b => if ω b = c then 0 else ω b
theorem shut_0 {ω : Col} {H : Hp} {c : Nat} : Same (vw ω H 0) (vw (shut ω c) H 0) := fun a o h => by
  obtain ⟨h1, h2⟩ := vw_iff.mp h
  refine vw_mk ?_ h2
  unfold shut
  split
  · rfl
  · exact h1
theorem shut_c {ω : Col} {H : Hp} {c : Nat} : Same (vw ω H c) (vw (shut ω c) H 0) := fun a o h => by
  obtain ⟨h1, h2⟩ := vw_iff.mp h
  refine vw_mk ?_ h2
  unfold shut
  rw [if_pos h1]
theorem shut_ne {ω : Col} {H : Hp} {c d : Nat} (n : d ≠ c) : Same (vw ω H d) (vw (shut ω c) H d) := fun a o h => by
  obtain ⟨h1, h2⟩ := vw_iff.mp h
  refine vw_mk ?_ h2
  unfold shut
  rw [if_neg (by rw [h1]; exact n)]
  exact h1
theorem Sta.move {Γ : Ga} {ω ω' : Col} {σ : L2.St} {H H' : Hp} (S : Sta Γ ω σ H) (a : Same (vw ω H 0) (vw ω' H' 0)) (r : ∀ i g, Γ[i]? = some (some g) → Same (vw ω H (i + 3)) (vw ω' H' (i + 3))) : Sta Γ ω' σ H' :=
  ⟨S.1, fun i g h => by
    obtain ⟨v, e, p⟩ := S.2 i g h
    exact ⟨v, e, g.mono a (r i g h) p⟩⟩
theorem wq_of {te : TE} {Γ : Ga} {k : Per → Ga → Prop} (h : WE te Γ fun g Γ' => ∃ q, Frz g q ∧ k q Γ') : WQ te Γ k := fun ω σ H S Q c =>
  h ω σ H S Q fun v g Γ' ω' H' ⟨q, fz, kk⟩ S' p fr => by
    refine c v q Γ' (shut ω' 2) H' kk (S'.move shut_0 fun i _ _ => shut_ne (by omega)) (fz _ _ _ _ shut_0 shut_c p) (fr.trans ⟨shut_0, shut_ne (by decide)⟩)
section
variable {K : PySem.W.Frag} {Γ : Ga} {k : Gp → Ga → Prop} {kt : Bool → Ga → Prop} {ta tb tc te : TE} {t u : TT}
theorem we_var {i : Nat} {q : Per} (h : Γ[i]? = some (some (per q))) (c : k (per q) Γ) : WE (tVar i) Γ k := fun ω σ H S Q f => by
  obtain ⟨v, e, p⟩ := S.2 i _ h
  exact ⟨v, e, f v _ Γ ω H c S p Fr.refl⟩
theorem set_eq {α : Type} {l : List α} {i j : Nat} {x : α} : (l.set i x)[j]? = if i = j then (if i < l.length then some x else none) else l[j]? := by
  rw [List.getElem?_set]
/-- a slot's own is shut when it is read as a value -/
theorem we_varF {i : Nat} {g : Gp} {q : Per} (h : Γ[i]? = some (some g)) (z : Frz g q) (c : k (per q) (Γ.set i (some (per q)))) : WE (tVar i) Γ k := fun ω σ H S Q f => by
  obtain ⟨v, e, p⟩ := S.2 i _ h
  have pq : q.q (vw (shut ω (i + 3)) H 0) v := z _ _ _ _ shut_0 shut_c p
  refine ⟨v, e, f v (per q) _ (shut ω (i + 3)) H c ⟨by rw [List.length_set]; exact S.1, fun j g' hj => ?_⟩ pq ⟨shut_0, shut_ne (by omega)⟩⟩
  rw [set_eq] at hj
  by_cases hij : i = j
  · rw [if_pos hij] at hj
    split at hj
    · cases hj
      subst hij
      exact ⟨v, e, pq⟩
    · cases hj
  · rw [if_neg hij] at hj
    obtain ⟨w, e', p'⟩ := S.2 j _ hj
    exact ⟨w, e', g'.mono shut_0 (shut_ne (by omega)) p'⟩
theorem we_c {v : V} {q : Per} (h : ∀ A, q.q A v) (c : k (per q) Γ) : WE (tC v) Γ k := fun ω σ H S Q f => f v _ Γ ω H c S (h _) Fr.refl
theorem we_int {i : Int} (c : k (dat (.int i)) Γ) : WE (tC (.int i)) Γ k := we_c (q := dP (.int i)) (fun _ => DR.int i) c
theorem we_bl {i : Bool} (c : k (dat (.bool i)) Γ) : WE (tC (.bl i)) Γ k := we_c (q := dP (.bool i)) (fun _ => DR.bl i) c
theorem we_str {i : Str} (c : k (dat (.str i)) Γ) : WE (tC (.str i)) Γ k := we_c (q := dP (.str i)) (fun _ => DR.str i) c
theorem we_non (c : k (dat .none) Γ) : WE (tC .non) Γ k := we_c (q := dP .none) (fun _ => DR.non) c
theorem WE.imp {k k' : Gp → Ga → Prop} (h : WE te Γ k) (f : ∀ g Γ', k g Γ' → k' g Γ') : WE te Γ k' := fun ω σ H S Q c => h ω σ H S Q fun v g Γ' ω' H' kk => c v g Γ' ω' H' (f _ _ kk)
theorem WQ.imp {k k' : Per → Ga → Prop} (h : WQ te Γ k) (f : ∀ g Γ', k g Γ' → k' g Γ') : WQ te Γ k' := fun ω σ H S Q c => h ω σ H S Q fun v g Γ' ω' H' kk => c v g Γ' ω' H' (f _ _ kk)
theorem WT.imp {t : TT} {k k' : Bool → Ga → Prop} (h : WT t Γ k) (f : ∀ g Γ', k g Γ' → k' g Γ') : WT t Γ k' := fun ω σ H S Q c => h ω σ H S Q fun g Γ' ω' H' kk => c g Γ' ω' H' (f _ _ kk)

/-- a two-place operation upon what stands still -/
theorem we_op {r : R2} (h : WQ ta Γ fun q Γ1 => WQ tb Γ1 fun q' Γ2 => ∀ (ω : Col) (σ : L2.St) (H : Hp) (v w : V), Sta Γ2 ω σ H → q.q (vw ω H 0) v → q'.q (vw ω H 0) w → ∀ Q : VK,
    (∀ (v : V) (g : Gp) (Γ' : Ga) (ω' : Col) (H' : Hp), k g Γ' → Sta Γ' ω' σ H' → g.p (vw ω' H' 0) v (vw ω' H' 2) → Fr ω ω' H H' → Q v H') → r v w H Q) : WE (tOp r ta tb) Γ k := fun ω σ H S Q f =>
  h ω σ H S _ fun v q Γ1 ω1 H1 h1 S1 p1 f1 => h1 ω1 σ H1 S1 _ fun w q' Γ2 ω2 H2 h2 S2 p2 f2 =>
    h2 ω2 σ H2 v w S2 (q.mono f2.1 p1) p2 Q fun v g Γ' ω' H' kk S' p f3 => f v g Γ' ω' H' kk S' p ((f1.trans f2).trans f3)
theorem we_un {r : V → Hp → VK → Prop} (h : WQ ta Γ fun q Γ2 => ∀ (ω : Col) (σ : L2.St) (H : Hp) (v : V), Sta Γ2 ω σ H → q.q (vw ω H 0) v → ∀ Q : VK,
    (∀ (v : V) (g : Gp) (Γ' : Ga) (ω' : Col) (H' : Hp), k g Γ' → Sta Γ' ω' σ H' → g.p (vw ω' H' 0) v (vw ω' H' 2) → Fr ω ω' H H' → Q v H') → r v H Q) : WE (tUn r ta) Γ k := fun ω σ H S Q f =>
  h ω σ H S _ fun v q Γ1 ω1 H1 h1 S1 p1 f1 => h1 ω1 σ H1 v S1 p1 Q fun v g Γ' ω' H' kk S' p f3 => f v g Γ' ω' H' kk S' p (f1.trans f3)
end
end G

namespace G
open PySem L2

/-! ### something new -/
def paint (ω : Col) (p : Addr) (c : Nat) : Col := fun b => if b = p then c else ω b
theorem paint_same {ω : Col} {H : Hp} {p : Addr} {c : Nat} {o : HO} (n : H p = none) (d : Nat) : Same (vw ω H d) (vw (paint ω p c) (upd H p o) d) := fun a u h => by
  obtain ⟨h1, h2⟩ := vw_iff.mp h
  have e : a ≠ p := ne_of_none h2 n
  exact vw_mk (by unfold paint; rw [if_neg e]; exact h1) (by rw [upd_ne e]; exact h2)
theorem paint_at {ω : Col} {H : Hp} {p : Addr} {c : Nat} {o : HO} : vw (paint ω p c) (upd H p o) c p = some o := vw_mk (by unfold paint; rw [if_pos rfl]) upd_same
theorem paint_fr {ω : Col} {H : Hp} {p : Addr} {c : Nat} {o : HO} (n : H p = none) : Fr ω (paint ω p c) H (upd H p o) := ⟨paint_same n 0, paint_same n 1⟩
theorem Sta.new {Γ : Ga} {ω : Col} {σ : L2.St} {H : Hp} (S : Sta Γ ω σ H) {p : Addr} (c : Nat) {o : HO} (n : H p = none) : Sta Γ (paint ω p c) σ (upd H p o) :=
  S.move (paint_same n 0) fun _ _ _ => paint_same n _
/-- an own object is changed -/
theorem mut_same {ω : Col} {H : Hp} {p : Addr} {o : HO} {d : Nat} (n : ω p ≠ d) : Same (vw ω H d) (vw ω (upd H p o) d) := fun a u h => by
  obtain ⟨h1, h2⟩ := vw_iff.mp h
  have e : a ≠ p := fun q => n (by rw [← q]; exact h1)
  exact vw_mk h1 (by rw [upd_ne e]; exact h2)
theorem Sta.set {Γ : Ga} {ω ω' : Col} {σ : L2.St} {H H' : Hp} (S : Sta Γ ω σ H) {i : Nat} {v : V} {g : Gp} (a : Same (vw ω H 0) (vw ω' H' 0)) (r : ∀ j g, j ≠ i → Γ[j]? = some (some g) → Same (vw ω H (j + 3)) (vw ω' H' (j + 3)))
    (e : σ[i]? = some (some v)) (p : g.p (vw ω' H' 0) v (vw ω' H' (i + 3))) : Sta (Γ.set i (some g)) ω' σ H' := by
  refine ⟨by rw [List.length_set]; exact S.1, fun j g' hj => ?_⟩
  rw [set_eq] at hj
  by_cases hij : i = j
  · rw [if_pos hij] at hj
    split at hj
    · cases hj
      subst hij
      exact ⟨v, e, p⟩
    · cases hj
  · rw [if_neg hij] at hj
    obtain ⟨w, e', p'⟩ := S.2 j _ hj
    exact ⟨w, e', g'.mono a (r j _ (Ne.symm hij) hj) p'⟩
/-- the assignment x = e: the result's own goes to the slot -/
def give (ω : Col) (c d : Nat) : Col := fun b => if ω b = c then d else if ω b = d then c else ω b
theorem give_c {ω : Col} {H : Hp} {c d : Nat} : Same (vw ω H c) (vw (give ω c d) H d) := fun a o h => by
  obtain ⟨h1, h2⟩ := vw_iff.mp h
  exact vw_mk (by unfold give; rw [if_pos h1]) h2
theorem give_ne {ω : Col} {H : Hp} {c d e : Nat} (n : e ≠ c) (m : e ≠ d) : Same (vw ω H e) (vw (give ω c d) H e) := fun a o h => by
  obtain ⟨h1, h2⟩ := vw_iff.mp h
  exact vw_mk (by unfold give; rw [if_neg (by rw [h1]; exact n), if_neg (by rw [h1]; exact m)]; exact h1) h2
theorem Sta.asg {Γ : Ga} {ω : Col} {σ : L2.St} {H : Hp} (S : Sta Γ ω σ H) {i : Nat} {v : V} {g : Gp} (p : g.p (vw ω H 0) v (vw ω H 2)) : Sta (Γ.set i (some g)) (give ω 2 (i + 3)) (σ.set i (some v)) H := by
  refine ⟨by rw [List.length_set, List.length_set]; exact S.1, fun j g' hj => ?_⟩
  rw [set_eq] at hj
  by_cases hij : i = j
  · rw [if_pos hij] at hj
    split at hj
    next hl =>
      cases hj
      subst hij
      exact ⟨v, by rw [set_eq, if_pos rfl, if_pos (by rw [S.1]; exact hl)], g.mono (give_ne (by omega) (by omega)) give_c p⟩
    · cases hj
  · rw [if_neg hij] at hj
    obtain ⟨w, e', p'⟩ := S.2 j _ hj
    exact ⟨w, by rw [set_eq, if_neg hij]; exact e', g'.mono (give_ne (by omega) (by omega)) (give_ne (by omega) (by omega)) p'⟩
theorem give_fr {ω : Col} {H : Hp} {i : Nat} : Fr ω (give ω 2 (i + 3)) H H := ⟨give_ne (by omega) (by omega), give_ne (by omega) (by omega)⟩

section
variable {K : PySem.W.Frag} {Γ : Ga} {k : Gp → Ga → Prop} {kt : Bool → Ga → Prop} {ka : List Arg → Ga → Prop} {ta tb tc te : TE} {t u : TT} {tr : TA} {r r' : R2}

/-! ### tests -/
theorem wt_test (h : WQ te Γ fun q Γ1 => ∃ b, q = dP (.bool b) ∧ kt b Γ1) : WT (tTest te) Γ kt := fun ω σ H S Q f => h ω σ H S _ fun v q Γ1 ω1 H1 ⟨b, e, hk⟩ S1 p f1 => by
  subst e
  exact ⟨b, DR.bl_inv p, f b Γ1 ω1 H1 hk S1 f1⟩
theorem wt_B (h : WQ te Γ fun q Γ1 => ∃ b, q = dP (.bool b) ∧ kt b Γ1) : WT (tB te) Γ kt := fun ω σ H S Q f => h ω σ H S _ fun v q Γ1 ω1 H1 ⟨b, e, hk⟩ S1 p f1 => by
  subst e
  exact ⟨b, DR.bl_inv p, f b Γ1 ω1 H1 hk S1 f1⟩
theorem wt_not (h : WT t Γ fun b Γ1 => kt (!b) Γ1) : WT (tNot t) Γ kt := fun ω σ H S Q f => h ω σ H S _ fun b Γ1 ω1 H1 hk S1 f1 => f _ Γ1 ω1 H1 hk S1 f1
theorem wt_and (h : WT t Γ fun b Γ1 => if b = true then WT u Γ1 kt else kt false Γ1) : WT (tAnd t u) Γ kt := fun ω σ H S Q f => h ω σ H S _ fun b Γ1 ω1 H1 hk S1 f1 => by
  cases b with
  | true => exact iteT ((show WT u Γ1 kt from hk) ω1 σ H1 S1 Q fun b Γ2 ω2 H2 hk S2 f2 => f b Γ2 ω2 H2 hk S2 (f1.trans f2))
  | false => exact iteF (f false Γ1 ω1 H1 hk S1 f1)
theorem wt_or (h : WT t Γ fun b Γ1 => if b = true then kt true Γ1 else WT u Γ1 kt) : WT (tOr t u) Γ kt := fun ω σ H S Q f => h ω σ H S _ fun b Γ1 ω1 H1 hk S1 f1 => by
  cases b with
  | false => exact iteF ((show WT u Γ1 kt from hk) ω1 σ H1 S1 Q fun b Γ2 ω2 H2 hk S2 f2 => f b Γ2 ω2 H2 hk S2 (f1.trans f2))
  | true => exact iteT (f true Γ1 ω1 H1 hk S1 f1)
/-! ### and, or, not as values; a if t else b -/
theorem we_and (h : WQ ta Γ fun q Γ1 => ∃ b, q = dP (.bool b) ∧ if b = true then WE tb Γ1 k else k (dat (.bool false)) Γ1) : WE (tAndV ta tb) Γ k := fun ω σ H S Q f => h ω σ H S _ fun v q Γ1 ω1 H1 ⟨b, e, hk⟩ S1 p f1 => by
  subst e
  refine ⟨b, DR.bl_inv p, ?_⟩
  cases b with
  | true => exact iteT ((show WE tb Γ1 k from hk) ω1 σ H1 S1 Q fun v g Γ2 ω2 H2 hk S2 p2 f2 => f v g Γ2 ω2 H2 hk S2 p2 (f1.trans f2))
  | false => exact iteF (f _ _ Γ1 ω1 H1 hk S1 (DR.bl false) f1)
theorem we_or (h : WQ ta Γ fun q Γ1 => ∃ b, q = dP (.bool b) ∧ if b = true then k (dat (.bool true)) Γ1 else WE tb Γ1 k) : WE (tOrV ta tb) Γ k := fun ω σ H S Q f => h ω σ H S _ fun v q Γ1 ω1 H1 ⟨b, e, hk⟩ S1 p f1 => by
  subst e
  refine ⟨b, DR.bl_inv p, ?_⟩
  cases b with
  | false => exact iteF ((show WE tb Γ1 k from hk) ω1 σ H1 S1 Q fun v g Γ2 ω2 H2 hk S2 p2 f2 => f v g Γ2 ω2 H2 hk S2 p2 (f1.trans f2))
  | true => exact iteT (f _ _ Γ1 ω1 H1 hk S1 (DR.bl true) f1)
theorem we_not (h : WQ ta Γ fun q Γ1 => ∃ b, q = dP (.bool b) ∧ k (dat (.bool (!b))) Γ1) : WE (tNotV ta) Γ k := fun ω σ H S Q f => h ω σ H S _ fun v q Γ1 ω1 H1 ⟨b, e, hk⟩ S1 p f1 => by
  subst e
  exact ⟨b, DR.bl_inv p, f _ _ Γ1 ω1 H1 hk S1 (DR.bl _) f1⟩
theorem we_if (h : WT t Γ fun b Γ1 => if b = true then WE ta Γ1 k else WE tb Γ1 k) : WE (tIf t ta tb) Γ k := fun ω σ H S Q f => h ω σ H S _ fun b Γ1 ω1 H1 hk S1 f1 => by
  cases b with
  | true => exact iteT ((show WE ta Γ1 k from hk) ω1 σ H1 S1 Q fun v g Γ2 ω2 H2 hk S2 p2 f2 => f v g Γ2 ω2 H2 hk S2 p2 (f1.trans f2))
  | false => exact iteF ((show WE tb Γ1 k from hk) ω1 σ H1 S1 Q fun v g Γ2 ω2 H2 hk S2 p2 f2 => f v g Γ2 ω2 H2 hk S2 p2 (f1.trans f2))
/-! ### arguments -/
theorem wa_nil (h : ka [] Γ) : WA tNil Γ ka := fun ω σ H S Q f => f [] [] Γ ω H h S .nil Fr.refl
theorem wa_cons (h : WQ te Γ fun q Γ1 => WA tr Γ1 fun as Γ2 => ka (.q q :: as) Γ2) : WA (tCons te tr) Γ ka := fun ω σ H S Q f => h ω σ H S _ fun v q Γ1 ω1 H1 hk S1 p f1 =>
  hk ω1 σ H1 S1 _ fun vs as Γ2 ω2 H2 h2 S2 a f2 => f (v :: vs) (.q q :: as) Γ2 ω2 H2 h2 S2 (.cons (q.mono f2.1 p) a) (f1.trans f2)
theorem wa_slot {i : Nat} (hi : ∃ g, Γ[i]? = some (some g)) (h : WA tr Γ fun as Γ2 => ka (.s i :: as) Γ2) : WA (tCons (tVar i) tr) Γ ka := fun ω σ H S Q f => by
  obtain ⟨g, hg⟩ := hi
  obtain ⟨v, e, p⟩ := S.2 i g hg
  exact ⟨v, e, h ω σ H S _ fun vs as Γ2 ω2 H2 h2 S2 a f2 => f (v :: vs) (.s i :: as) Γ2 ω2 H2 h2 S2 (.cons e a) f2⟩
theorem WA.imp {ka' : List Arg → Ga → Prop} (h : WA tr Γ ka) (f : ∀ as Γ', ka as Γ' → ka' as Γ') : WA tr Γ ka' := fun ω σ H S Q c => h ω σ H S Q fun vs as Γ' ω' H' kk => c vs as Γ' ω' H' (f _ _ kk)
/-- arguments that are all data -/
def ArgD : List Arg → List PyData → Prop
  | [], [] => True
  | .q q :: as, d :: ds => q = dP d ∧ ArgD as ds
  | _, _ => False
theorem ArgD.drs {σ : L2.St} {A : Hp} : ∀ {as : List Arg} {ds : List PyData} {vs : List V}, ArgD as ds → ArgsOk σ A as vs → DRs A vs ds
  | [], [], _, _, h => by cases h; exact .nil
  | [], _ :: _, _, h, _ => h.elim
  | .q q :: as, [], _, h, _ => h.elim
  | .s i :: as, _, _, h, _ => by unfold ArgD at h; exact h.elim
  | .q q :: as, d :: ds, _, h, a => by
    obtain ⟨e, h⟩ := h
    subst e
    cases a with | cons x y => exact .cons x (ArgD.drs h y)
theorem we_tup (h : WA tr Γ fun as Γ1 => ∃ ds, ArgD as ds ∧ ds.length ≤ 100000 ∧ k (dat (.tuple ds)) Γ1) : WE (tTup tr) Γ k := fun ω σ H S Q f => h ω σ H S _ fun vs as Γ1 ω1 H1 ⟨ds, e, hl, hk⟩ S1 a f1 => by
  have hd := e.drs a
  refine ⟨by rw [hd.length]; exact Nat.le_trans hl (by decide), fun p hp => f _ _ Γ1 (paint ω1 p 0) _ hk (S1.new 0 hp) ?_ (f1.trans (paint_fr hp))⟩
  exact DR.tup paint_at (hd.mono (paint_same hp 0))
theorem we_lst (h : WA tr Γ fun as Γ1 => ∃ ds, ArgD as ds ∧ ds.length ≤ 100000 ∧ k (own ds) Γ1) : WE (tLst tr) Γ k := fun ω σ H S Q f => h ω σ H S _ fun vs as Γ1 ω1 H1 ⟨ds, e, hl, hk⟩ S1 a f1 => by
  have hd := e.drs a
  exact ⟨by rw [hd.length]; exact Nat.le_trans hl (by decide), fun p hp => f _ _ Γ1 (paint ω1 p 2) _ hk (S1.new 2 hp) ⟨p, vs, rfl, paint_at, hd.mono (paint_same hp 0)⟩ (f1.trans (paint_fr hp))⟩

/-! ### operations -/
def rOr (r r' : R2) : R2 := fun x y H Q => r x y H Q ∨ r' x y H Q
theorem op_or {X : Cx} {f : Value → Value → Sem Value} (h : OpR X f r) (h' : OpR X f r') : OpR X f (rOr r r') := fun pins s σ H x y v u Q I rx ry q => by
  rcases q with q | q
  · exact h pins s σ H x y v u Q I rx ry q
  · exact h' pins s σ H x y v u Q I rx ry q
/-- what r does upon two data -/
def OpD (r : R2) (d e : PyData) (q : Per) : Prop := ∀ (A H : Hp) (v w : V), Same A H → DR A v d → DR A w e → ∀ Q : VK, (∀ z, q.q A z → Q z H) → r v w H Q
theorem OpD.lft {d e : PyData} {q : Per} (h : OpD r d e q) : OpD (rOr r r') d e q := fun A H v w s a b Q c => .inl (h A H v w s a b Q c)
theorem od_I {C : Int → Int → Prop} {gi : Int → Int → Int} {i j : Int} (c : C i j) : OpD (rI C fun i j => .int (gi i j)) (.int i) (.int j) (dP (.int (gi i j))) := fun A H v w _ hv hw Q g => by
  cases hv.int_inv
  cases hw.int_inv
  exact ⟨i, j, rfl, rfl, c, g _ (DR.int _)⟩
theorem od_I0 {gi : Int → Int → Int} {i j : Int} : OpD (rI0 fun i j => .int (gi i j)) (.int i) (.int j) (dP (.int (gi i j))) := fun A H v w _ hv hw Q g => by
  cases hv.int_inv
  cases hw.int_inv
  exact ⟨i, j, rfl, rfl, g _ (DR.int _)⟩
theorem od_B0 {gi : Int → Int → Bool} {i j : Int} : OpD (rI0 fun i j => .bl (gi i j)) (.int i) (.int j) (dP (.bool (gi i j))) := fun A H v w _ hv hw Q g => by
  cases hv.int_inv
  cases hw.int_inv
  exact ⟨i, j, rfl, rfl, g _ (DR.bl _)⟩
theorem Dp.same {H H' : Hp} {v : V} {d : PyData} (z : SeqAt.shaped d = true) (s : Same H H') (h : DR H v d) : Dp K H' v d := DR.dp d (SeqAt.canLay_of_shaped z) (h.mono s)
theorem od_eq {d e : PyData} (hd : SeqAt.shaped d = true) (he : SeqAt.shaped e = true) : OpD (rEqD K) d e (dP (.bool (PyData.eqv d e))) := fun A H v w s a b Q g => ⟨d, e, Dp.same hd s a, Dp.same he s b, hd, he, g _ (DR.bl _)⟩
theorem od_ne {d e : PyData} (hd : SeqAt.shaped d = true) (he : SeqAt.shaped e = true) : OpD (rNeD K) d e (dP (.bool (!PyData.eqv d e))) := fun A H v w s a b Q g => ⟨d, e, Dp.same hd s a, Dp.same he s b, hd, he, g _ (DR.bl _)⟩
theorem od_in {d : PyData} {ds : List PyData} (hd : SeqAt.shaped d = true) (he : SeqAt.shaped (.list ds) = true) : OpD (rInD K) d (.list ds) (dP (.bool (ds.any fun z => PyData.eqv z d))) := fun A H v w s a b Q g =>
  ⟨d, ds, Dp.same hd s a, Dp.same he s b, hd, he, g _ (DR.bl _)⟩
theorem od_notIn {d : PyData} {ds : List PyData} (hd : SeqAt.shaped d = true) (he : SeqAt.shaped (.list ds) = true) : OpD (rNotInD K) d (.list ds) (dP (.bool (!ds.any fun z => PyData.eqv z d))) := fun A H v w s a b Q g =>
  ⟨d, ds, Dp.same hd s a, Dp.same he s b, hd, he, g _ (DR.bl _)⟩
theorem od_ixL {ds : List PyData} {i : Int} {d : PyData} (h : atI ds i = some d) : OpD (rIx K) (.list ds) (.int i) (dP d) := fun A H v w s a b Q g => by
  obtain ⟨x, xs, rfl, hx, hd⟩ := a.lst_inv
  cases b.int_inv
  obtain ⟨z, hz, dz⟩ : ∃ z, atI xs i = some z ∧ DR A z d := by
    unfold atI at h ⊢
    rw [← hd.length] at h
    cases e : ixN xs.length i with
    | none => rw [e] at h; cases h
    | some j =>
      rw [e] at h
      obtain ⟨z, hz, dz⟩ := hd.at (i := j) h
      exact ⟨z, hz, dz⟩
  exact .inl ⟨x, xs, i, z, rfl, rfl, SqL.of (s _ _ hx), hz, g _ dz⟩
theorem at_nat {α : Type} {xs : List α} {i : Int} {d : α} (j : Nat) (e : i = j) (h : xs[j]? = some d) : atI xs i = some d := by
  rw [e]
  exact atI_nat h
/-- a slot's own list read by its place -/
theorem we_ixS {i : Nat} {ds : List PyData} (h : Γ[i]? = some (some (own ds))) (hb : WQ tb Γ fun q Γ1 => ∃ j d, q = dP (.int j) ∧ Γ1[i]? = some (some (own ds)) ∧ atI ds j = some d ∧ k (dat d) Γ1) : WE (tOp (rIx K) (tVar i) tb) Γ k := fun ω σ H S Q f => by
  obtain ⟨v, e, p⟩ := S.2 i _ h
  refine ⟨v, e, hb ω σ H S _ fun w q Γ1 ω1 H1 ⟨j, d, eq, hi, ha, hk⟩ S1 pq f1 => ?_⟩
  subst eq
  cases DR.int_inv pq
  obtain ⟨v', e', p'⟩ := S1.2 i _ hi
  rw [e] at e'
  cases e'
  obtain ⟨a, vs, rfl, hr, hd⟩ := p'
  obtain ⟨z, hz, dz⟩ : ∃ z, atI vs j = some z ∧ DR (vw ω1 H1 0) z d := by
    unfold atI at ha ⊢
    rw [← hd.length] at ha
    cases e : ixN vs.length j with
    | none => rw [e] at ha; cases ha
    | some j =>
      rw [e] at ha
      obtain ⟨z, hz, dz⟩ := hd.at (i := j) ha
      exact ⟨z, hz, dz⟩
  exact .inl ⟨a, vs, j, z, rfl, rfl, SqL.of (vw_H hr), hz, f _ _ Γ1 ω1 H1 hk S1 dz f1⟩
/-! ### calls of built-ins upon data -/
def CbD (r : List V → Hp → VK → Prop) (ds : List PyData) (q : Per) : Prop := ∀ (A H : Hp) (vs : List V), Same A H → DRs A vs ds → ∀ Q : VK, (∀ z, q.q A z → Q z H) → r vs H Q
/-- .. that gives a new list -/
def CbL (r : List V → Hp → VK → Prop) (ds : List PyData) (P : List PyData → Prop) : Prop := ∀ (A H : Hp) (vs : List V), Same A H → DRs A vs ds → ∀ Q : VK, (∀ es xs p, P es → DRs A xs es → H p = none → Q (.ref p) (upd H p (.lst xs))) → r vs H Q
/-- len of a slot's own list -/
theorem we_lenS {i : Nat} {ds : List PyData} (h : Γ[i]? = some (some (own ds))) (hk : k (dat (.int ds.length)) Γ) : WE (tCB (fun xs H Q => ∃ x n, xs = [x] ∧ LenV K x H n ∧ Q (.int n) H) (tCons (tVar i) tNil)) Γ k := fun ω σ H S Q f => by
  obtain ⟨v, e, p⟩ := S.2 i _ h
  obtain ⟨a, vs, rfl, hr, hd⟩ := id p
  exact ⟨_, e, _, vs.length, rfl, .inl ⟨vs, SqL.of (vw_H hr), rfl⟩, by rw [hd.length]; exact f _ _ Γ ω H hk S (DR.int _) Fr.refl⟩
end
end G

namespace G
open PySem L2

/-! ### statements -/
structure Pe where
  nx : Ga → Prop
  rt : Gp → Ga → Prop
  bk : Ga → Prop
  ct : Ga → Prop
/-- what follows another statement; what a loop's body is to reach -/
abbrev Pe.to (D : Pe) (n : Ga → Prop) : Pe := ⟨n, D.rt, D.bk, D.ct⟩
abbrev Pe.lp (D : Pe) (n : Ga → Prop) : Pe := ⟨n, D.rt, D.nx, n⟩
def Pin (P : Nat → Bool) (σ σ' : L2.St) : Prop := σ'.length = σ.length ∧ ∀ i, P i = true → σ'[i]? = σ[i]?
theorem Pin.refl {P : Nat → Bool} {σ : L2.St} : Pin P σ σ := ⟨rfl, fun _ _ => rfl⟩
theorem Pin.trans {P : Nat → Bool} {σ σ1 σ2 : L2.St} (a : Pin P σ σ1) (b : Pin P σ1 σ2) : Pin P σ σ2 := ⟨b.1.trans a.1, fun i h => (b.2 i h).trans (a.2 i h)⟩
structure Met (P : Nat → Bool) (D : Pe) (ω : Col) (σ : L2.St) (H : Hp) (E : Ends) : Prop where
  nx : ∀ Γ' ω' σ' H', D.nx Γ' → Sta Γ' ω' σ' H' → Fr ω ω' H H' → Pin P σ σ' → E.nx σ' H'
  rt : ∀ v g Γ' ω' σ' H', D.rt g Γ' → Sta Γ' ω' σ' H' → Gp.p g (vw ω' H' 0) v (vw ω' H' 2) → Fr ω ω' H H' → Pin P σ σ' → E.rt v H'
  bk : ∀ Γ' ω' σ' H', D.bk Γ' → Sta Γ' ω' σ' H' → Fr ω ω' H H' → Pin P σ σ' → E.bk σ' H'
  ct : ∀ Γ' ω' σ' H', D.ct Γ' → Sta Γ' ω' σ' H' → Fr ω ω' H H' → Pin P σ σ' → E.ct σ' H'
theorem Met.after {P : Nat → Bool} {D : Pe} {ω ω1 : Col} {σ σ1 : L2.St} {H H1 : Hp} {E : Ends} (m : Met P D ω σ H E) (f : Fr ω ω1 H H1) (p : Pin P σ σ1) : Met P D ω1 σ1 H1 E :=
  ⟨fun Γ' ω' σ' H' h S g q => m.nx Γ' ω' σ' H' h S (f.trans g) (p.trans q), fun v g Γ' ω' σ' H' h S x y q => m.rt v g Γ' ω' σ' H' h S x (f.trans y) (p.trans q),
   fun Γ' ω' σ' H' h S g q => m.bk Γ' ω' σ' H' h S (f.trans g) (p.trans q), fun Γ' ω' σ' H' h S g q => m.ct Γ' ω' σ' H' h S (f.trans g) (p.trans q)⟩
def WS (P : Nat → Bool) (t : TS) (Γ : Ga) (D : Pe) : Prop := ∀ ω σ H, Sta Γ ω σ H → ∀ E : Ends, Met P D ω σ H E → t E σ H
def WG (P : Nat → Bool) (g : TG) (q : Per) (Γ : Ga) (k : Ga → Prop) : Prop := ∀ ω σ H v, Sta Γ ω σ H → q.q (vw ω H 0) v → ∀ R : L2.St → Hp → Prop,
  (∀ Γ' ω' σ' H', k Γ' → Sta Γ' ω' σ' H' → Fr ω ω' H H' → Pin P σ σ' → R σ' H') → g v σ H R
section
variable {K : PySem.W.Frag} {P : Nat → Bool} {Γ : Ga} {D : Pe} {k : Gp → Ga → Prop} {kt : Bool → Ga → Prop} {kg : Ga → Prop} {te tl : TE} {c : TT} {t u tb : TS} {ta : TA} {g : TG}
theorem ws_seq (h : WS P t Γ (D.to fun Γ' => WS P u Γ' D)) : WS P (tSeq t u) Γ D := fun ω σ H S E m =>
  h ω σ H S { E with nx := u E } ⟨fun Γ' ω' σ' H' hk S' f p => (show WS P u Γ' D from hk) ω' σ' H' S' E (m.after f p), m.rt, m.bk, m.ct⟩
theorem ws_next (h : D.nx Γ) : WS P tNext Γ D := fun ω σ H S E m => m.nx Γ ω σ H h S Fr.refl Pin.refl
theorem pin_set {σ : L2.St} {i : Nat} {x : Option V} (h : P i = false) : Pin P σ (σ.set i x) := ⟨by rw [List.length_set], fun j hj => by
  rw [set_eq, if_neg]
  intro e
  subst e
  rw [h] at hj
  cases hj⟩
theorem ws_asg {i : Nat} (hp : P i = false) (h : WE te Γ fun g Γ' => D.nx (Γ'.set i (some g))) : WS P (tAsg te (gName i)) Γ D := fun ω σ H S E m => h ω σ H S _ fun v g Γ' ω' H' hk S' p f =>
  m.nx _ _ _ H' hk (S'.asg p) (f.trans give_fr) (pin_set hp)
theorem ws_asgG (h : WQ te Γ fun q Γ' => WG P g q Γ' D.nx) : WS P (tAsg te g) Γ D := fun ω σ H S E m => h ω σ H S _ fun v q Γ' ω' H' hk S' p f =>
  hk ω' σ H' v S' p _ fun Γ2 ω2 σ2 H2 h2 S2 f2 p2 => m.nx Γ2 ω2 σ2 H2 h2 S2 (f.trans f2) p2
theorem Sta.setq {ω : Col} {σ : L2.St} {H : Hp} (S : Sta Γ ω σ H) {i : Nat} {v : V} {q : Per} (p : q.q (vw ω H 0) v) : Sta (Γ.set i (some (per q))) ω (σ.set i (some v)) H := by
  refine ⟨by rw [List.length_set, List.length_set]; exact S.1, fun j g' hj => ?_⟩
  rw [set_eq] at hj
  by_cases hij : i = j
  · rw [if_pos hij] at hj
    split at hj
    next hl =>
      cases hj
      subst hij
      exact ⟨v, by rw [set_eq, if_pos rfl, if_pos (by rw [S.1]; exact hl)], p⟩
    · cases hj
  · rw [if_neg hij] at hj
    obtain ⟨w, e', p'⟩ := S.2 j _ hj
    exact ⟨w, by rw [set_eq, if_neg hij]; exact e', p'⟩
theorem wg_name {i : Nat} {q : Per} (hp : P i = false) (h : kg (Γ.set i (some (per q)))) : WG P (gName i) q Γ kg := fun ω σ H v S p R f => f _ ω _ H h (S.setq p) Fr.refl (pin_set hp)
def WGs (P : Nat → Bool) (g : TGs) (ds : List PyData) (Γ : Ga) (k : Ga → Prop) : Prop := ∀ ω σ H vs, Sta Γ ω σ H → DRs (vw ω H 0) vs ds → ∀ R : L2.St → Hp → Prop,
  (∀ Γ' ω' σ' H', k Γ' → Sta Γ' ω' σ' H' → Fr ω ω' H H' → Pin P σ σ' → R σ' H') → g vs σ H R
theorem wgs_nil (h : kg Γ) : WGs P gNil [] Γ kg := fun ω σ H vs S p R f => by
  cases p
  exact ⟨rfl, f Γ ω σ H h S Fr.refl Pin.refl⟩
theorem wgs_cons {gs : TGs} {d : PyData} {ds : List PyData} (h : WG P g (dP d) Γ fun Γ1 => WGs P gs ds Γ1 kg) : WGs P (gCons g gs) (d :: ds) Γ kg := fun ω σ H vs S p R f => by
  cases p with | cons a b =>
  exact ⟨_, _, rfl, h ω σ H _ S a _ fun Γ1 ω1 σ1 H1 h1 S1 f1 p1 => h1 ω1 σ1 H1 _ S1 (b.mono f1.1) R fun Γ2 ω2 σ2 H2 h2 S2 f2 p2 => f Γ2 ω2 σ2 H2 h2 S2 (f1.trans f2) (p1.trans p2)⟩
theorem wg_tup {gs : TGs} {n : Nat} {ds : List PyData} (hn : ds.length = n) (h : WGs P gs ds Γ kg) : WG P (gTup K n gs) (dP (.tuple ds)) Γ kg := fun ω σ H v S p R f => by
  obtain ⟨a, xs, rfl, ha, hd⟩ := DR.tup_inv p
  exact ⟨a, xs, rfl, SqT.of (vw_H ha), by rw [hd.length]; exact hn, h ω σ H xs S hd R f⟩
/-- xs[i] = e, xs a slot's own -/
theorem wg_set {i : Nat} {ds : List PyData} {ti : TE} {d : PyData} (hi : Γ[i]? = some (some (own ds))) (h : WQ ti Γ fun q Γ1 => ∃ j m ds', q = dP (.int j) ∧ Γ1[i]? = some (some (own ds')) ∧ ixN ds'.length j = some m ∧ kg (Γ1.set i (some (own (ds'.set m d))))) :
    WG P (gSub (tVar i) ti rSetL) (dP d) Γ kg := fun ω σ H v S p R f => by
  obtain ⟨x, e, p0⟩ := S.2 i _ hi
  refine ⟨x, e, h ω σ H S _ fun w q Γ1 ω1 H1 ⟨j, m, ds', eq, hi1, hj, hk⟩ S1 pq f1 => ?_⟩
  subst eq
  cases DR.int_inv pq
  obtain ⟨x', e', p1⟩ := S1.2 i _ hi1
  rw [e] at e'
  cases e'
  obtain ⟨a, vs, rfl, hr, hd⟩ := p1
  have ca := vw_c hr
  refine ⟨a, vs, j, m, rfl, rfl, vw_H hr, by rw [hd.length]; exact hj, ?_⟩
  have m0 : Same (vw ω1 H1 0) (vw ω1 (upd H1 a (.lst (vs.set m v))) 0) := mut_same (by rw [ca]; omega)
  refine f _ ω1 σ _ hk (S1.set m0 (fun j' g' hne _ => mut_same (by rw [ca]; omega)) e ⟨a, _, rfl, vw_mk ca upd_same, ?_⟩) (f1.trans ⟨m0, mut_same (by rw [ca]; omega)⟩) Pin.refl
  exact (hd.mono m0).set m ((DR.mono f1.1 d p).mono m0)
theorem ws_drop (h : WE te Γ fun _ Γ' => D.nx Γ') : WS P (tDrop te) Γ D := fun ω σ H S E m => h ω σ H S _ fun v g Γ' ω' H' hk S' p f => m.nx Γ' ω' σ H' hk S' f Pin.refl
theorem ws_ret (h : WE te Γ fun g Γ' => D.rt g Γ') : WS P (tRet te) Γ D := fun ω σ H S E m => h ω σ H S _ fun v g Γ' ω' H' hk S' p f => m.rt v g Γ' ω' σ H' hk S' p f Pin.refl
theorem ws_retN (h : D.rt (dat .none) Γ) : WS P tRetN Γ D := fun ω σ H S E m => m.rt .non _ Γ ω σ H h S DR.non Fr.refl Pin.refl
theorem ws_if (h : WT c Γ fun b Γ' => if b = true then WS P t Γ' D else WS P u Γ' D) : WS P (tIfS c t u) Γ D := fun ω σ H S E m => h ω σ H S _ fun b Γ' ω' H' hk S' f => by
  cases b with
  | true => exact iteT ((show WS P t Γ' D from hk) ω' σ H' S' E (m.after f Pin.refl))
  | false => exact iteF ((show WS P u Γ' D from hk) ω' σ H' S' E (m.after f Pin.refl))
/-! ### loops -/
def Walks (J : It) (A : Hp) (n : Nat) (it : Nat → Per) : Prop := ∀ i H', Same A H' →
  (i < n → J.go i H' ∧ ∀ x H'', J.yld i H' x H'' → (H'' = H' ∧ (it i).q A x) ∨ ∃ T vs ds, H' T = none ∧ H'' = upd H' T (.tup vs) ∧ x = .ref T ∧ it i = dP (.tuple ds) ∧ DRs A vs ds) ∧ (n ≤ i → J.stop i H')
def WI (wi : TI) (Γ : Ga) (k : Nat → (Nat → Per) → Ga → Prop) : Prop := ∀ ω σ H, Sta Γ ω σ H → ∀ R : It → Hp → Prop,
  (∀ J n it Γ' ω' H', k n it Γ' → Sta Γ' ω' σ H' → Walks J (vw ω' H' 0) n it → Fr ω ω' H H' → R J H') → wi σ H R
/-- an item has come: it stands still -/
theorem yld_ok {J : It} {A : Hp} {n i : Nat} {it : Nat → Per} (W : Walks J A n it) {ω ω0 : Col} {σ : L2.St} {H0 H H'' : Hp} {x : V} (hA : A = vw ω0 H0 0) (f : Fr ω0 ω H0 H) (S : Sta Γ ω σ H) (hi : i < n) (y : J.yld i H x H'') :
    ∃ ω', Sta Γ ω' σ H'' ∧ Fr ω ω' H H'' ∧ (it i).q (vw ω' H'' 0) x := by
  have sA : Same A H := fun a o e => vw_H (f.1 a o (by rw [← hA]; exact e))
  rcases ((W i H sA).1 hi).2 x H'' y with ⟨e, q⟩ | ⟨T, vs, ds, hT, e, ex, ei, hd⟩
  · subst e
    exact ⟨ω, S, Fr.refl, (it i).mono f.1 (by rw [← hA]; exact q)⟩
  · subst e ex
    refine ⟨paint ω T 0, S.new 0 hT, paint_fr hT, ?_⟩
    rw [ei]
    refine DR.tup paint_at ?_
    rw [hA] at hd
    exact (hd.mono f.1).mono (paint_same hT 0)
theorem ws_for {wi : TI} (Pv : Nat → Ga → Prop) (h : WI wi Γ fun n it Γ1 => Pv 0 Γ1 ∧ (∀ Γ2, Pv n Γ2 → D.nx Γ2) ∧ ∀ i Γ2, i < n → Pv i Γ2 →
    WG P g (it i) Γ2 fun Γ3 => WS P tb Γ3 (D.lp (Pv (i + 1)))) : WS P (tFor wi g tb) Γ D := fun ω σ H S E m => h ω σ H S _ fun J n it Γ1 ω1 H1 ⟨h0, hd, hs⟩ S1 W f1 => by
  refine ⟨fun i μ σ' H' => μ = n - i ∧ i ≤ n ∧ ∃ Γ2 ω2, Pv i Γ2 ∧ Sta Γ2 ω2 σ' H' ∧ Fr ω1 ω2 H1 H' ∧ Pin P σ σ', ⟨n, by simp, Nat.zero_le _, Γ1, ω1, h0, S1, Fr.refl, Pin.refl⟩, ?_⟩
  rintro i μ σ' H' ⟨rfl, hi, Γ2, ω2, p2, S2, f2, q2⟩
  have sA : Same (vw ω1 H1 0) H' := fun a o e => vw_H (f2.1 a o e)
  by_cases hlt : i < n
  · refine .inr ⟨((W i H' sA).1 hlt).1, fun σ'' H'' => ∃ Γ2 ω2, Pv (i + 1) Γ2 ∧ Sta Γ2 ω2 σ'' H'' ∧ Fr ω1 ω2 H1 H'' ∧ Pin P σ σ'', fun σ'' H'' z => ⟨n - (i + 1), by omega, rfl, hlt, z⟩, fun x H'' y => ?_⟩
    obtain ⟨ω3, S3, f3, q3⟩ := yld_ok W rfl f2 S2 hlt y
    refine hs i Γ2 hlt p2 ω3 σ' H'' x S3 q3 _ fun Γ4 ω4 σ4 H4 h4 S4 f4 q4 => ?_
    have f14 : Fr ω1 ω4 H1 H4 := (f2.trans f3).trans f4
    refine h4 ω4 σ4 H4 S4 _ ⟨fun Γ' ω' σ5 H5 hk S5 f5 q5 => ⟨Γ', ω', hk, S5, f14.trans f5, (q2.trans q4).trans q5⟩,
      fun v gg Γ' ω' σ5 H5 hk S5 p5 f5 q5 => m.rt v gg Γ' ω' σ5 H5 hk S5 p5 (f1.trans (f14.trans f5)) ((q2.trans q4).trans q5),
      fun Γ' ω' σ5 H5 hk S5 f5 q5 => m.nx Γ' ω' σ5 H5 hk S5 (f1.trans (f14.trans f5)) ((q2.trans q4).trans q5),
      fun Γ' ω' σ5 H5 hk S5 f5 q5 => ⟨Γ', ω', hk, S5, f14.trans f5, (q2.trans q4).trans q5⟩⟩
  · have e : i = n := by omega
    subst e
    exact .inl ⟨(W i H' sA).2 (Nat.le_refl _), m.nx Γ2 ω2 σ' H' (hd Γ2 p2) S2 (f1.trans f2) q2⟩
/-! ### what is walked -/
theorem wi_list {ki : Nat → (Nat → Per) → Ga → Prop} (h : WQ tl Γ fun q Γ1 => ∃ ds, q = dP (.list ds) ∧ ki ds.length (fun i => dP (ds.getD i .none)) Γ1) : WI (iList K tl) Γ ki := fun ω σ H S R f => h ω σ H S _ fun v q Γ1 ω1 H1 ⟨ds, e, hk⟩ S1 p f1 => by
  subst e
  obtain ⟨a, xs, rfl, ha, hd⟩ := DR.lst_inv p
  refine ⟨a, rfl, ⟨xs, SqL.of (vw_H ha)⟩, f (Itl K a) ds.length _ Γ1 ω1 H1 hk S1 (fun i H' s => ?_) f1⟩
  have hq : H' a = some (.lst xs) := s _ _ ha
  refine ⟨fun hi => ?_, fun hi => ⟨xs, SqL.of hq, by rw [hd.length]; exact hi⟩⟩
  have hix : i < xs.length := by rw [hd.length]; exact hi
  refine ⟨⟨xs, xs[i], SqL.of hq, by simp [hix]⟩, fun x H'' y => .inl ?_⟩
  obtain ⟨e, y⟩ := y
  refine ⟨e, ?_⟩
  have hx := y xs (SqL.of hq)
  obtain ⟨d, h1, h2⟩ := hd.get hx
  show DR _ x (ds.getD i .none)
  rw [List.getD_eq_getElem?_getD, h1]
  exact h2
theorem walks_r {lo : Int} {n : Nat} {A : Hp} : Walks (Itr lo n) A n fun i => dP (.int (lo + i)) := fun i H' s =>
  ⟨fun hi => ⟨hi, fun x H'' y => .inl ⟨y.1, by rw [y.2]; exact DR.int _⟩⟩, fun hi => hi⟩
theorem wi_range1 {ki : Nat → (Nat → Per) → Ga → Prop} (h : WA ta Γ fun as Γ1 => ∃ j : Int, as = [.q (dP (.int j))] ∧ -(2 ^ 62) ≤ j ∧ j < 2 ^ 62 ∧ ki j.toNat (fun i => dP (.int (0 + i))) Γ1) : WI (iRng1 ta) Γ ki := fun ω σ H S R f => h ω σ H S _ fun vs as Γ1 ω1 H1 ⟨j, e, l, u, hk⟩ S1 a f1 => by
  subst e
  cases a with | cons x y =>
  cases y
  cases DR.int_inv x
  exact ⟨j, rfl, l, u, f _ _ _ Γ1 ω1 H1 hk S1 walks_r f1⟩
end
end G

namespace G
open PySem L2

/-! ### comprehensions -/
def wipeG (Γ : Ga) : List Nat → Ga
  | [] => Γ
  | v :: vs => (wipeG Γ vs).set v none
theorem wipe_get {σ : L2.St} : ∀ {vs : List Nat} {i : Nat}, (wipe σ vs)[i]? = if i ∈ vs then (if i < σ.length then some none else none) else σ[i]?
  | [], i => by simp [wipe]
  | v :: vs, i => by
    unfold wipe
    rw [set_eq, wipe_length]
    by_cases h : v = i
    · subst h; simp
    · rw [if_neg h, wipe_get]
      have : (i ∈ v :: vs) ↔ i ∈ vs := by simp [Ne.symm h]
      simp only [this]
theorem wipeG_length {Γ : Ga} : ∀ vs : List Nat, (wipeG Γ vs).length = Γ.length
  | [] => rfl
  | v :: vs => by unfold wipeG; rw [List.length_set, wipeG_length vs]
theorem wipeG_get {Γ : Ga} : ∀ {vs : List Nat} {i : Nat} {g : Gp}, (wipeG Γ vs)[i]? = some (some g) → i ∉ vs ∧ Γ[i]? = some (some g)
  | [], i, g, h => ⟨by simp, h⟩
  | v :: vs, i, g, h => by
    unfold wipeG at h
    rw [set_eq] at h
    by_cases e : v = i
    · rw [if_pos e] at h
      split at h <;> cases h
    · rw [if_neg e] at h
      obtain ⟨h1, h2⟩ := wipeG_get h
      exact ⟨by simp [Ne.symm e, h1], h2⟩
theorem Sta.wipe {Γ : Ga} {ω : Col} {σ : L2.St} {H : Hp} (S : Sta Γ ω σ H) (vs : List Nat) : Sta (wipeG Γ vs) ω (L2.wipe σ vs) H := by
  refine ⟨by rw [wipe_length, wipeG_length]; exact S.1, fun i g h => ?_⟩
  obtain ⟨h1, h2⟩ := wipeG_get h
  obtain ⟨v, e, p⟩ := S.2 i g h2
  exact ⟨v, by rw [wipe_get, if_neg h1]; exact e, p⟩
/-- back at the whole frame: only the block's own names may be other -/
theorem Sta.unwipe {Γ : Ga} {ω : Col} {σ σ2 : L2.St} {H : Hp} {vs : List Nat} (S : Sta Γ ω σ2 H) (p : Pin (fun i => !vs.contains i) (L2.wipe σ vs) σ2) : Sta (wipeG Γ vs) ω σ H ∧ L2.wipe σ2 vs = L2.wipe σ vs := by
  have hl : σ2.length = σ.length := by rw [p.1, wipe_length]
  refine ⟨⟨by rw [wipeG_length, ← S.1]; exact hl.symm, fun i g h => ?_⟩, ?_⟩
  · obtain ⟨h1, h2⟩ := wipeG_get h
    obtain ⟨v, e, q⟩ := S.2 i g h2
    refine ⟨v, ?_, q⟩
    rw [← e, p.2 i (by simp [h1]), wipe_get, if_neg h1]
  · apply List.ext_getElem?
    intro i
    rw [wipe_get, wipe_get, hl]
    by_cases h1 : i ∈ vs
    · simp only [h1, if_true]
    · simp only [h1, if_false]
      rw [p.2 i (by simp [h1]), wipe_get, if_neg h1]
section
variable {K : PySem.W.Frag} {P : Nat → Bool} {Γ : Ga} {D : Pe} {k : Gp → Ga → Prop} {kt : Bool → Ga → Prop} {kg : Ga → Prop} {te tl : TE} {tt : TT} {t u tb : TS} {ta : TA} {g : TG}
theorem wt_yes (h : kt true Γ) : WT tYes Γ kt := fun ω σ H S Q f => f true Γ ω H h S Fr.refl
/-- a new list by a comprehension; Pv: turn, what is made, slots -/
theorem we_lc {wi : TI} {vs : List Nat} (Pv : Nat → List PyData → Ga → Prop) (h : WI wi Γ fun n it Γ1 => Pv 0 [] Γ1 ∧ (∀ acc Γ2, Pv n acc Γ2 → k (own acc) Γ2) ∧ ∀ i acc Γ2, i < n → Pv i acc Γ2 → Γ2.length = Γ.length →
    WG (fun i => !vs.contains i) g (it i) (wipeG Γ2 vs) fun Γ3 => WT tt Γ3 fun b Γ4 => if b = true then WQ te Γ4 fun q Γ5 => ∃ d, q = dP d ∧ acc.length < 100000 ∧ Pv (i + 1) (acc ++ [d]) (wipeG Γ5 vs) else Pv (i + 1) acc (wipeG Γ4 vs)) :
    WE (tLc wi g tt te vs) Γ k := fun ω σ H S Q f => h ω σ H S _ fun J n it Γ1 ω1 H1 ⟨h0, hd, hs⟩ S1 W f1 => by
  intro L hL
  have hlen : ∀ {Γ2 : Ga} {ω2 : Col} {σ2 : L2.St} {H2 : Hp}, Sta Γ2 ω2 σ2 H2 → σ2.length = σ.length → Γ2.length = Γ.length := fun {Γ2 ω2 σ2 H2} S2 e => by rw [← S2.1, e, S.1]
  refine ⟨fun i μ H' => μ = n - i ∧ i ≤ n ∧ ∃ acc xs Γ2 ω2, Pv i acc Γ2 ∧ Sta Γ2 ω2 σ H' ∧ Fr ω1 ω2 H1 H' ∧ ω2 L = 1 ∧ H' L = some (.lst xs) ∧ DRs (vw ω2 H' 0) xs acc,
    ⟨n, by simp, Nat.zero_le _, [], [], Γ1, paint ω1 L 1, h0, S1.new 1 hL, paint_fr hL, by unfold paint; rw [if_pos rfl], upd_same, .nil⟩, ?_⟩
  rintro i μ H' ⟨rfl, hi, acc, xs, Γ2, ω2, p2, S2, f2, c2, e2, d2⟩
  have sA : Same (vw ω1 H1 0) H' := fun a o e => vw_H (f2.1 a o e)
  by_cases hlt : i < n
  · refine .inr ⟨((W i H' sA).1 hlt).1, fun H'' => ∃ acc xs Γ2 ω2, Pv (i + 1) acc Γ2 ∧ Sta Γ2 ω2 σ H'' ∧ Fr ω1 ω2 H1 H'' ∧ ω2 L = 1 ∧ H'' L = some (.lst xs) ∧ DRs (vw ω2 H'' 0) xs acc, fun H'' z => ⟨n - (i + 1), by omega, rfl, hlt, z⟩, fun x H'' y => ?_⟩
    obtain ⟨ω3, S3, f3, q3⟩ := yld_ok W rfl f2 S2 hlt y
    refine hs i acc Γ2 hlt p2 (hlen S2 rfl) ω3 _ H'' x (S3.wipe vs) q3 _ fun Γ4 ω4 σ4 H4 h4 S4 f4 q4 => ?_
    obtain ⟨S5, ew⟩ := S4.unwipe q4
    refine ⟨ew, h4 ω4 σ4 H4 S4 _ fun b Γ6 ω6 H6 hk S6 f6 => ?_⟩
    have f16 : Fr ω1 ω6 H1 H6 := ((f2.trans f3).trans f4).trans f6
    have f26 : Fr ω2 ω6 H' H6 := (f3.trans f4).trans f6
    have keep : ∀ {ω7 : Col} {H7 : Hp}, Fr ω2 ω7 H' H7 → ω7 L = 1 ∧ H7 L = some (.lst xs) ∧ DRs (vw ω7 H7 0) xs acc := fun {ω7 H7} f7 => by
      have z := f7.2 L _ (vw_mk c2 e2)
      exact ⟨vw_c z, vw_H z, d2.mono f7.1⟩
    cases b with
    | false =>
      refine iteF ?_
      obtain ⟨k1, k2, k3⟩ := keep f26
      exact ⟨acc, xs, _, ω6, hk, (S6.unwipe q4).1, f16, k1, k2, k3⟩
    | true =>
      refine iteT ((show WQ te Γ6 _ from hk) ω6 σ4 H6 S6 _ fun w q Γ7 ω7 H7 ⟨d, eq, hl, h7⟩ S7 p7 f7 => ?_)
      subst eq
      obtain ⟨k1, k2, k3⟩ := keep (f26.trans f7)
      have m0 : Same (vw ω7 H7 0) (vw ω7 (upd H7 L (.lst (xs ++ [w]))) 0) := mut_same (by rw [k1]; decide)
      refine ⟨xs, k2, by rw [k3.length]; exact Nat.lt_of_lt_of_le hl (by decide), acc ++ [d], xs ++ [w], _, ω7, h7, ?_, ?_, k1, upd_same, (k3.mono m0).snoc (DR.mono m0 d p7)⟩
      · exact ((S7.unwipe q4).1).move m0 fun i g _ => mut_same (by rw [k1]; omega)
      · exact ⟨(f16.trans f7).1.trans m0, fun a o h => by
          have z := (f16.trans f7).2 a o h
          exact vw_mk (vw_c z) (by rw [upd_ne (ne_of_none (vw_H h) hL)]; exact vw_H z)⟩
  · have e : i = n := by omega
    subst e
    refine .inl ⟨(W i H' sA).2 (Nat.le_refl _), ?_⟩
    have pn : ∀ c, c ≠ 1 → Same (vw ω2 H' c) (vw (paint ω2 L 2) H' c) := fun c hc a o h => by
      refine vw_mk ?_ (vw_H h)
      unfold paint
      rw [if_neg]
      · exact vw_c h
      · intro e
        rw [e] at h
        exact hc ((vw_c h).symm.trans c2)
    refine f (.ref L) (own acc) Γ2 (paint ω2 L 2) H' (hd acc Γ2 p2) (S2.move (pn 0 (by decide)) fun i _ _ => pn _ (by omega)) ⟨L, xs, rfl, vw_mk (by unfold paint; rw [if_pos rfl]) e2, d2.mono (pn 0 (by decide))⟩ (f1.trans ⟨f2.1.trans (pn 0 (by decide)), fun a o h => ?_⟩)
    have z := f2.2 a o h
    refine vw_mk ?_ (vw_H z)
    unfold paint
    rw [if_neg (ne_of_none (vw_H h) hL)]
    exact vw_c z

/-! ### methods of a slot's own list -/
def MtO (r : V → List V → Hp → VK → Prop) (ds : List PyData) (es : List PyData) (ds' : List PyData) (res : PyData) : Prop := ∀ (A H : Hp) (a : Addr) (vs xs : List V), Same A H → A a = none → H a = some (.lst vs) → DRs A vs ds → DRs A xs es →
  ∀ Q : VK, (∀ ws z, DRs A ws ds' → DR A z res → Q z (upd H a (.lst ws))) → r (.ref a) xs H Q
theorem we_mt {i : Nat} {r : V → List V → Hp → VK → Prop} {ds0 : List PyData} (h : Γ[i]? = some (some (own ds0))) (ha : WA ta Γ fun as Γ1 => ∃ ds es ds' res, Γ1[i]? = some (some (own ds)) ∧ ArgD as es ∧ MtO r ds es ds' res ∧ k (dat res) (Γ1.set i (some (own ds')))) :
    WE (tBM K "list" r (tVar i) ta) Γ k := fun ω σ H S Q f => by
  obtain ⟨v, e, p⟩ := S.2 i _ h
  obtain ⟨a, vs, rfl, hr, hd⟩ := id p
  refine ⟨_, e, .inl ⟨rfl, vs, SqL.of (vw_H hr)⟩, ha ω σ H S _ fun xs as Γ1 ω1 H1 ⟨ds, es, ds', res, hi, hes, hm, hk⟩ S1 ax f1 => ?_⟩
  obtain ⟨v', e', p'⟩ := S1.2 i _ hi
  rw [e] at e'
  cases e'
  obtain ⟨a', vs', ea, hr', hd'⟩ := p'
  cases ea
  have ca := vw_c hr'
  have an : vw ω1 H1 0 a = none := by
    unfold vw
    rw [if_neg (by rw [ca]; omega)]
  refine hm (vw ω1 H1 0) H1 a vs' xs (fun _ _ z => vw_H z) an (vw_H hr') hd' (hes.drs ax) Q fun ws z hws hz => ?_
  have m0 : Same (vw ω1 H1 0) (vw ω1 (upd H1 a (.lst ws)) 0) := mut_same (by rw [ca]; omega)
  exact f z _ _ ω1 _ hk (S1.set m0 (fun j' g' hne _ => mut_same (by rw [ca]; omega)) e ⟨a, ws, rfl, vw_mk ca upd_same, hws.mono m0⟩) (hz.mono m0) (f1.trans ⟨m0, mut_same (by rw [ca]; omega)⟩)
theorem mo_append {ds : List PyData} {d : PyData} (hl : ds.length < 100000) : MtO rAppend ds [d] (ds ++ [d]) .none := fun A H a vs xs s an ha hd he Q f => by
  cases he with | cons x y =>
  cases y
  exact ⟨a, vs, _, rfl, rfl, ha, by rw [hd.length]; exact Nat.lt_of_lt_of_le hl (by decide), f _ _ (hd.snoc x) DR.non⟩
end
end G

namespace G
open PySem L2

/-! ### promises of defs by what their slots hold -/
abbrev Fw := List Gp → (Gp → Ga → Prop) → (Value → Ga → Prop) → Prop
def ParOk (gs : List Gp) (ω : Col) (H : Hp) (vs : List V) : Prop := gs.length = vs.length ∧ ∀ (i : Nat) (g : Gp) (v : V), gs[i]? = some g → vs[i]? = some v → g.p (vw ω H 0) v (vw ω H (i + 3))
def EndOk (Γp : Ga) (ω : Col) (H : Hp) (vs : List V) : Prop := ∀ (i : Nat) (g : Gp) (v : V), Γp[i]? = some (some g) → vs[i]? = some v → g.p (vw ω H 0) v (vw ω H (i + 3))
def SpG (n : Nat) (F : Fw) : Sp := fun vs H Q E => ∃ gs kk xx ω, vs.length = n ∧ F gs kk xx ∧ ParOk gs ω H vs ∧
  (∀ (v : V) (g : Gp) (Γp : Ga) (ω' : Col) (H' : Hp), kk g Γp → EndOk Γp ω' H' vs → g.p (vw ω' H' 0) v (vw ω' H' 2) → Fr ω ω' H H' → Q v H') ∧
  (∀ (c : Value) (Γp : Ga) (ω' : Col) (H' : Hp), xx c Γp → EndOk Γp ω' H' vs → Fr ω ω' H H' → E c none H')
theorem SpG.len {n : Nat} {F : Fw} : ∀ vs H Q E, SpG n F vs H Q E → vs.length = n := fun vs H Q E ⟨_, _, _, _, h, _⟩ => h
def mask (P : Nat → Bool) (n : Nat) (Γ : Ga) : Ga := (List.range n).map fun i => if P i = true then (Γ[i]?).join else none
theorem mask_get {P : Nat → Bool} {n : Nat} {Γ : Ga} {i : Nat} {g : Gp} (h : (mask P n Γ)[i]? = some (some g)) : i < n ∧ P i = true ∧ Γ[i]? = some (some g) := by
  unfold mask at h
  rw [List.getElem?_map] at h
  by_cases hi : i < n
  · rw [List.getElem?_range hi] at h
    simp only [Option.map_some, Option.some.injEq] at h
    by_cases hp : P i = true
    · rw [if_pos hp] at h
      refine ⟨hi, hp, ?_⟩
      cases e : Γ[i]? with
      | none => rw [e] at h; cases h
      | some o => rw [e] at h; exact congrArg some h
    · rw [if_neg hp] at h; cases h
  · rw [List.getElem?_eq_none (by simp; omega)] at h
    cases h
theorem par_sta {gs : List Gp} {ω : Col} {H : Hp} {vs : List V} {N : List Str} (h : ParOk gs ω H vs) : Sta (gs.map some ++ List.replicate (N.length - vs.length) none) ω (start N vs) H := by
  refine ⟨by simp [L2.start, h.1], fun i g hg => ?_⟩
  by_cases hi : i < gs.length
  · rw [List.getElem?_append_left (by simpa using hi), List.getElem?_map] at hg
    have hiv : i < vs.length := by rw [← h.1]; exact hi
    rw [List.getElem?_eq_getElem hi] at hg
    cases hg
    refine ⟨vs[i], ?_, h.2 i _ _ (List.getElem?_eq_getElem hi) (List.getElem?_eq_getElem hiv)⟩
    unfold L2.start
    rw [List.getElem?_append_left (by simpa using hiv), List.getElem?_map, List.getElem?_eq_getElem hiv]
    rfl
  · rw [List.getElem?_append_right (by simpa using Nat.le_of_not_lt hi)] at hg
    rw [List.getElem?_replicate] at hg
    split at hg <;> cases hg
/-- g holds, so g' -/
def Ent (g g' : Gp) : Prop := ∀ A v R, g.p A v R → g'.p A v R
theorem Ent.refl {g : Gp} : Ent g g := fun _ _ _ h => h
def Les : Ga → Ga → Prop
  | [], [] => True
  | _ :: Γ, none :: Γp => Les Γ Γp
  | some g :: Γ, some g' :: Γp => Ent g g' ∧ Les Γ Γp
  | _, _ => False
theorem Les.get : ∀ {Γ Γp : Ga} {i : Nat} {g' : Gp}, Les Γ Γp → Γp[i]? = some (some g') → ∃ g, Γ[i]? = some (some g) ∧ Ent g g'
  | [], [], _, _, _, h => by simp at h
  | [], _ :: _, _, _, l, _ => by simp [Les] at l
  | _ :: Γ, [], _, _, _, h => by simp at h
  | o :: Γ, none :: Γp, 0, _, _, h => by simp at h
  | o :: Γ, none :: Γp, i + 1, g', l, h => by
    have l' : Les Γ Γp := by cases o <;> exact l
    exact Les.get (i := i) l' (by simpa using h)
  | none :: Γ, some _ :: Γp, _, _, l, _ => l.elim
  | some g :: Γ, some g1 :: Γp, 0, g', l, h => by
    obtain ⟨e, _⟩ := l
    simp at h
    subst h
    exact ⟨g, rfl, e⟩
  | some g :: Γ, some g1 :: Γp, i + 1, g', l, h => by
    obtain ⟨_, l⟩ := l
    exact Les.get (i := i) l (by simpa using h)
theorem EndOk.les {Γ Γp : Ga} {ω : Col} {H : Hp} {vs : List V} (h : EndOk Γ ω H vs) (l : Les Γ Γp) : EndOk Γp ω H vs := fun i g' v hg hv => by
  obtain ⟨g, e, z⟩ := l.get hg
  exact z _ _ _ (h i g v e hv)
theorem body_ok {n : Nat} {F : Fw} (P : Nat → Bool) {t : TS} {N : List Str} {vs : List V} {H : Hp} {Q : VK} {E : XK}
    (h : ∀ gs kk xx, F gs kk xx → gs.length = n → WS P t (gs.map some ++ List.replicate (N.length - n) none) ⟨fun Γ => ∃ Γp, Les (mask P n Γ) Γp ∧ kk (dat .none) Γp, fun g Γ => ∃ g' Γp, Ent g g' ∧ Les (mask P n Γ) Γp ∧ kk g' Γp, fun _ => False, fun _ => False⟩) (hs : SpG n F vs H Q E) :
    t { nx := fun _ H' => Q .non H', rt := Q } (start N vs) H := by
  obtain ⟨gs, kk, xx, ω, hn, hF, hp, hq, _⟩ := hs
  have S := par_sta (N := N) hp
  rw [hn] at S
  have stv : ∀ (i : Nat) (v : V), vs[i]? = some v → (start N vs)[i]? = some (some v) := fun i v e => by
    have hi := (List.getElem?_eq_some_iff.mp e).1
    unfold L2.start
    rw [List.getElem?_append_left (by simpa using hi), List.getElem?_map, e]
    rfl
  have en : ∀ (Γ' : Ga) (ω' : Col) (σ' : L2.St) (H' : Hp), Sta Γ' ω' σ' H' → Pin P (start N vs) σ' → EndOk (mask P n Γ') ω' H' vs := fun Γ' ω' σ' H' S' pi i g v hg hv => by
    obtain ⟨_, hP, hg⟩ := mask_get hg
    obtain ⟨v', e, p⟩ := S'.2 i g hg
    rw [pi.2 i hP, stv i v hv] at e
    cases e
    exact p
  refine h gs kk xx hF (by rw [hp.1, hn]) ω _ H S _ ⟨fun Γ' ω' σ' H' ⟨Γp, l, hk⟩ S' f pi => ?_, fun v g Γ' ω' σ' H' ⟨g', Γp, eg, l, hk⟩ S' p f pi => ?_, fun _ _ _ _ hk => hk.elim, fun _ _ _ _ hk => hk.elim⟩
  · exact hq .non _ _ ω' H' hk ((en Γ' ω' σ' H' S' pi).les l) DR.non f
  · exact hq v g' _ ω' H' hk ((en Γ' ω' σ' H' S' pi).les l) (eg _ _ _ p) f

/-! ### a call -/
def anyG : Gp := ⟨fun _ _ _ => True, fun _ _ h => h⟩
def gsOf (Γ : Ga) : List Arg → List Gp
  | [] => []
  | .s i :: as => ((Γ[i]?).join).getD anyG :: gsOf Γ as
  | .q q :: as => per q :: gsOf Γ as
def back (Γ : Ga) : List Arg → Ga → Ga
  | [], _ => Γ
  | .s i :: as, [] => (back Γ as []).set i none
  | .s i :: as, o :: r => (back Γ as r).set i o
  | .q _ :: as, [] => back Γ as []
  | .q _ :: as, _ :: r => back Γ as r
def slots : List Arg → List Nat
  | [] => []
  | .s i :: as => i :: slots as
  | .q _ :: as => slots as
def inn' : List Arg → Nat → Nat → Nat
  | [], _, _ => 1
  | .s i :: as, j, c => if c = i + 3 then j + 3 else inn' as (j + 1) c
  | .q _ :: as, j, c => inn' as (j + 1) c
def inn (as : List Arg) (c : Nat) : Nat := if c = 0 then 0 else inn' as 0 c
def outt (as : List Arg) (c : Nat) : Nat := if c = 2 then 2 else if c < 3 then 0 else match as[c - 3]? with
  | some (Arg.s i) => i + 3
  | _ => 0
theorem back_len {Γ : Ga} : ∀ (as : List Arg) (Γp : Ga), (back Γ as Γp).length = Γ.length
  | [], _ => rfl
  | .s i :: as, [] => by unfold back; rw [List.length_set, back_len as]
  | .s i :: as, o :: r => by unfold back; rw [List.length_set, back_len as]
  | .q _ :: as, [] => by unfold back; rw [back_len as]
  | .q _ :: as, _ :: r => by unfold back; rw [back_len as]
theorem back_get {Γ : Ga} : ∀ {as : List Arg} {Γp : Ga} {i : Nat} {g : Gp}, (back Γ as Γp)[i]? = some (some g) → (∃ j : Nat, as[j]? = some (Arg.s i) ∧ Γp[j]? = some (some g)) ∨ (i ∉ slots as ∧ Γ[i]? = some (some g))
  | [], _, i, g, h => .inr ⟨by simp [slots], h⟩
  | .s i0 :: as, [], i, g, h => by
    unfold back at h
    rw [set_eq] at h
    by_cases e : i0 = i
    · rw [if_pos e] at h
      split at h <;> cases h
    · rw [if_neg e] at h
      rcases back_get h with ⟨j, _, h2⟩ | ⟨h1, h2⟩
      · simp at h2
      · exact .inr ⟨by simp [slots, Ne.symm e, h1], h2⟩
  | .s i0 :: as, o :: r, i, g, h => by
    unfold back at h
    rw [set_eq] at h
    by_cases e : i0 = i
    · rw [if_pos e] at h
      split at h
      · cases h
        exact .inl ⟨0, by simp [e], rfl⟩
      · cases h
    · rw [if_neg e] at h
      rcases back_get h with ⟨j, h1, h2⟩ | ⟨h1, h2⟩
      · exact .inl ⟨j + 1, by simpa using h1, by simpa using h2⟩
      · exact .inr ⟨by simp [slots, Ne.symm e, h1], h2⟩
  | .q _ :: as, [], i, g, h => by
    unfold back at h
    rcases back_get h with ⟨j, _, h2⟩ | ⟨h1, h2⟩
    · simp at h2
    · exact .inr ⟨by simpa [slots] using h1, h2⟩
  | .q _ :: as, o :: r, i, g, h => by
    unfold back at h
    rcases back_get h with ⟨j, h1, h2⟩ | ⟨h1, h2⟩
    · exact .inl ⟨j + 1, by simpa using h1, by simpa using h2⟩
    · exact .inr ⟨by simpa [slots] using h1, h2⟩
theorem slots_mem : ∀ {as : List Arg} {i j : Nat}, as[j]? = some (Arg.s i) → i ∈ slots as
  | [], _, _, h => by simp at h
  | .s i0 :: as, i, 0, h => by simp at h; simp [slots, h]
  | .s i0 :: as, i, j + 1, h => by simp [slots, slots_mem (as := as) (i := i) (j := j) (by simpa using h)]
  | .q _ :: as, i, 0, h => by simp at h
  | .q _ :: as, i, j + 1, h => by simp [slots, slots_mem (as := as) (i := i) (j := j) (by simpa using h)]
theorem inn'_at : ∀ {as : List Arg} {i j m : Nat}, (slots as).Nodup → as[j]? = some (Arg.s i) → inn' as m (i + 3) = m + j + 3
  | [], _, _, _, _, h => by simp at h
  | .s i0 :: as, i, 0, m, nd, h => by simp at h; simp [inn', h]
  | .s i0 :: as, i, j + 1, m, nd, h => by
    have h' : as[j]? = some (Arg.s i) := by simpa using h
    have hm := slots_mem h'
    have nd' : i0 ∉ slots as ∧ (slots as).Nodup := List.nodup_cons.mp nd
    have ne : ¬ i + 3 = i0 + 3 := fun e => nd'.1 (by have : i = i0 := by omega
                                                     rw [← this]; exact hm)
    unfold inn'
    rw [if_neg ne, inn'_at nd'.2 h']
    omega
  | .q _ :: as, i, 0, m, nd, h => by simp at h
  | .q _ :: as, i, j + 1, m, nd, h => by
    unfold inn'
    rw [inn'_at (as := as) (j := j) (by simpa [slots] using nd) (by simpa using h)]
    omega
theorem inn'_not : ∀ {as : List Arg} {c m : Nat}, (∀ i ∈ slots as, c ≠ i + 3) → inn' as m c = 1
  | [], _, _, _ => rfl
  | .s i0 :: as, c, m, h => by
    unfold inn'
    rw [if_neg (h i0 (by simp [slots])), inn'_not fun i hi => h i (by simp [slots, hi])]
  | .q _ :: as, c, m, h => by
    unfold inn'
    rw [inn'_not fun i hi => h i (by simpa [slots] using hi)]
def cIn (as : List Arg) (ω : Col) : Col := fun b => inn as (ω b)
def cOut (as : List Arg) (ω ω' : Col) (H : Hp) : Col := fun b => if (H b).isSome = true ∧ inn as (ω b) = 1 then ω b else outt as (ω' b)
section
variable {as : List Arg} {ω ω' : Col} {H H' : Hp}
theorem cIn_0 : Same (vw ω H 0) (vw (cIn as ω) H 0) := fun a o h => vw_mk (by unfold cIn; rw [vw_c h]; rfl) (vw_H h)
theorem cIn_s (nd : (slots as).Nodup) {i j : Nat} (hj : as[j]? = some (Arg.s i)) : Same (vw ω H (i + 3)) (vw (cIn as ω) H (j + 3)) := fun a o h => vw_mk (by
  unfold cIn inn
  rw [vw_c h, if_neg (by omega), inn'_at nd hj]
  omega) (vw_H h)
theorem cOut_0 (f : Fr (cIn as ω) ω' H H') : Same (vw ω H 0) (vw (cOut as ω ω' H) H' 0) := fun a o h => by
  have z := f.1 a o (cIn_0 a o h)
  refine vw_mk ?_ (vw_H z)
  unfold cOut
  have e : inn as (ω a) = 0 := by rw [vw_c h]; rfl
  rw [if_neg (by rw [e]; intro q; cases q.2), vw_c z]
  rfl
/-- what the callee doesn't know stays as it was -/
theorem cOut_k {c : Nat} (hc : c ≠ 0) (hs : ∀ i ∈ slots as, c ≠ i + 3) (f : Fr (cIn as ω) ω' H H') : Same (vw ω H c) (vw (cOut as ω ω' H) H' c) := fun a o h => by
  have e : inn as (ω a) = 1 := by
    unfold inn
    rw [vw_c h, if_neg hc]
    exact inn'_not hs
  have z := f.2 a o (vw_mk (by unfold cIn; exact e) (vw_H h))
  refine vw_mk ?_ (vw_H z)
  unfold cOut
  rw [if_pos ⟨by rw [vw_H h]; rfl, e⟩]
  exact vw_c h
theorem cOut_of {c d : Nat} (h1 : c ≠ 1) (ho : outt as c = d) (f : Fr (cIn as ω) ω' H H') : Same (vw ω' H' c) (vw (cOut as ω ω' H) H' d) := fun a o h => by
  refine vw_mk ?_ (vw_H h)
  unfold cOut
  rw [if_neg, vw_c h]
  · exact ho
  · intro ⟨q1, q2⟩
    obtain ⟨u, hu⟩ := Option.isSome_iff_exists.mp q1
    have z := f.2 a u (vw_mk (by unfold cIn; exact q2) hu)
    exact h1 ((vw_c h).symm.trans (vw_c z))
end
theorem gsOf_get {Γ : Ga} {σ : L2.St} {A : Hp} : ∀ {as : List Arg} {vs : List V} {j : Nat} {g : Gp} {v : V}, ArgsOk σ A as vs → (gsOf Γ as)[j]? = some g → vs[j]? = some v →
    (∃ i, as[j]? = some (Arg.s i) ∧ σ[i]? = some (some v) ∧ (g = anyG ∨ Γ[i]? = some (some g))) ∨ ∃ q, as[j]? = some (Arg.q q) ∧ g = per q ∧ q.q A v
  | [], _, _, _, _, _, h, _ => by simp [gsOf] at h
  | .s i :: as, _, 0, g, v, a, h, hv => by
    cases a with | cons x y =>
    simp [gsOf] at h hv
    subst hv
    refine .inl ⟨i, rfl, x, ?_⟩
    cases e : Γ[i]? with
    | none => rw [e] at h; left; exact h.symm
    | some o =>
      cases o with
      | none => rw [e] at h; left; exact h.symm
      | some g' => rw [e] at h; right; cases h; rfl
  | .q q :: as, _, 0, g, v, a, h, hv => by
    cases a with | cons x y =>
    simp [gsOf] at h hv
    subst hv
    exact .inr ⟨q, rfl, h.symm, x⟩
  | .s i :: as, _, j + 1, g, v, a, h, hv => by
    cases a with | cons x y =>
    rcases gsOf_get (as := as) (j := j) y (by simpa [gsOf] using h) (by simpa using hv) with ⟨i', h1, h2⟩ | ⟨q, h1, h2⟩
    · exact .inl ⟨i', by simpa using h1, h2⟩
    · exact .inr ⟨q, by simpa using h1, h2⟩
  | .q _ :: as, _, j + 1, g, v, a, h, hv => by
    cases a with | cons x y =>
    rcases gsOf_get (as := as) (j := j) y (by simpa [gsOf] using h) (by simpa using hv) with ⟨i', h1, h2⟩ | ⟨q, h1, h2⟩
    · exact .inl ⟨i', by simpa using h1, h2⟩
    · exact .inr ⟨q, by simpa using h1, h2⟩
theorem gsOf_len {Γ : Ga} : ∀ as : List Arg, (gsOf Γ as).length = as.length
  | [] => rfl
  | .s i :: as => by simp [gsOf, gsOf_len as]
  | .q _ :: as => by simp [gsOf, gsOf_len as]
theorem ArgsOk.len {σ : L2.St} {A : Hp} : ∀ {as : List Arg} {vs : List V}, ArgsOk σ A as vs → vs.length = as.length
  | [], _, h => by cases h; rfl
  | a :: as, _, h => by cases h with | cons x y => simp [ArgsOk.len y]
theorem ArgsOk.slot {σ : L2.St} {A : Hp} : ∀ {as : List Arg} {vs : List V} {i j : Nat}, ArgsOk σ A as vs → as[j]? = some (Arg.s i) → ∃ v, vs[j]? = some v ∧ σ[i]? = some (some v)
  | [], _, _, _, _, h => by simp at h
  | a :: as, _, i, 0, h, e => by cases h with | cons x y => simp at e; subst e; exact ⟨_, rfl, x⟩
  | a :: as, _, i, j + 1, h, e => by cases h with | cons x y => exact ArgsOk.slot (j := j) y (by simpa using e)
section
variable {K : PySem.W.Frag} {Γ : Ga} {k : Gp → Ga → Prop} {ta : TA} {n : Nat} {F : Fw} {E : XK}
/-- the promise is kept at a call -/
theorem call_core {Γ1 : Ga} {ω1 : Col} {σ : L2.St} {H1 : Hp} {as : List Arg} {vs : List V} {Q : VK} {kx : Value → Ga → Prop} (S1 : Sta Γ1 ω1 σ H1) (a : ArgsOk σ (vw ω1 H1 0) as vs) (hn : as.length = n) (nd : (slots as).Nodup)
    (hF : F (gsOf Γ1 as) (fun g Γp => k g (back Γ1 as Γp)) fun c Γp => kx c (back Γ1 as Γp))
    (c : ∀ v g Γ' ω' H', k g Γ' → Sta Γ' ω' σ H' → Gp.p g (vw ω' H' 0) v (vw ω' H' 2) → Fr ω1 ω' H1 H' → Q v H')
    (cx : ∀ cl Γ' ω' H', kx cl Γ' → Sta Γ' ω' σ H' → Fr ω1 ω' H1 H' → E cl none H') : SpG n F vs H1 Q E := by
  have fin : ∀ (Γp : Ga) (ω' : Col) (H' : Hp), EndOk Γp ω' H' vs → Fr (cIn as ω1) ω' H1 H' → Sta (back Γ1 as Γp) (cOut as ω1 ω' H1) σ H' := fun Γp ω' H' he f => by
    refine ⟨by rw [back_len]; exact S1.1, fun i g hg => ?_⟩
    rcases back_get hg with ⟨j, hj, hp⟩ | ⟨hni, hg⟩
    · obtain ⟨v, hv, hs⟩ := a.slot hj
      refine ⟨v, hs, g.mono (cOut_of (by decide) rfl f) (cOut_of (by omega) ?_ f) (he j g v hp hv)⟩
      unfold outt
      rw [if_neg (by omega), if_neg (by omega)]
      have : j + 3 - 3 = j := by omega
      rw [this, hj]
    · obtain ⟨v, hs, p⟩ := S1.2 i g hg
      have hc : ∀ i' ∈ slots as, i + 3 ≠ i' + 3 := fun i' hi' e => hni ((show i' = i by omega) ▸ hi')
      exact ⟨v, hs, g.mono (cOut_0 f) (cOut_k (by omega) hc f) p⟩
  have fr : ∀ (ω' : Col) (H' : Hp), Fr (cIn as ω1) ω' H1 H' → Fr ω1 (cOut as ω1 ω' H1) H1 H' := fun ω' H' f => ⟨cOut_0 f, cOut_k (by decide) (fun i _ => by omega) f⟩
  refine ⟨gsOf Γ1 as, _, _, cIn as ω1, by rw [a.len]; exact hn, hF, ⟨by rw [gsOf_len, a.len], fun j g v hg hv => ?_⟩, fun v g Γp ω' H' hk he p f => ?_, fun cl Γp ω' H' hk he f => ?_⟩
  · rcases gsOf_get a hg hv with ⟨i, hj, hs, e | e⟩ | ⟨q, hj, e, hq⟩
    · subst e; trivial
    · obtain ⟨v', e', p⟩ := S1.2 i g e
      rw [hs] at e'
      cases e'
      exact g.mono cIn_0 (cIn_s nd hj) p
    · subst e
      exact q.mono cIn_0 hq
  · exact c v g _ (cOut as ω1 ω' H1) H' hk (fin Γp ω' H' he f) (g.mono (cOut_of (by decide) rfl f) (cOut_of (by decide) rfl f) p) (fr ω' H' f)
  · exact cx cl _ (cOut as ω1 ω' H1) H' hk (fin Γp ω' H' he f) (fr ω' H' f)
theorem we_call (h : WA ta Γ fun as Γ1 => as.length = n ∧ (slots as).Nodup ∧ F (gsOf Γ1 as) (fun g Γp => k g (back Γ1 as Γp)) fun _ _ => False) : WE (tCall (SpG n F) [] E ta) Γ k := fun ω σ H S Q f => h ω σ H S _ fun vs as Γ1 ω1 H1 ⟨hn, nd, hF⟩ S1 a f1 => by
  show SpG n F (vs ++ []) H1 Q E
  rw [List.append_nil]
  exact call_core (kx := fun _ _ => False) S1 a hn nd hF (fun v g Γ' ω' H' hk S' p f2 => f v g Γ' ω' H' hk S' p (f1.trans f2)) fun _ _ _ _ hx => hx.elim
/-- the only argument is made on the way: it becomes the callee's own -/
def cIn1 (ω : Col) : Col := fun b => if ω b = 0 then 0 else if ω b = 2 then 3 else 1
def cOut1 (ω ω' : Col) (H : Hp) : Col := fun b => if (H b).isSome = true ∧ ω b ≠ 0 ∧ ω b ≠ 2 then ω b else if ω' b = 2 then 2 else 0
theorem we_call1 {te : TE} (h : WE te Γ fun g Γ1 => F [g] (fun g' _ => k g' Γ1) fun _ _ => False) : WE (tCall (SpG 1 F) [] E (tCons te tNil)) Γ k := fun ω σ H S Q f => h ω σ H S _ fun v g Γ1 ω1 H1 hF S1 p f1 => by
  show SpG 1 F ([v] ++ []) H1 Q E
  rw [List.append_nil]
  have i0 : Same (vw ω1 H1 0) (vw (cIn1 ω1) H1 0) := fun a o h => vw_mk (by unfold cIn1; rw [if_pos (vw_c h)]) (vw_H h)
  have i2 : Same (vw ω1 H1 2) (vw (cIn1 ω1) H1 3) := fun a o h => vw_mk (by unfold cIn1; rw [vw_c h]; rfl) (vw_H h)
  refine ⟨[g], _, _, cIn1 ω1, rfl, hF, ⟨rfl, fun j g' v' hg hv => ?_⟩, fun v' g' Γp ω' H' hk he p' f2 => ?_, fun _ _ _ _ hx => hx.elim⟩
  · match j, hg, hv with
    | 0, hg, hv =>
      cases hg
      cases hv
      exact g.mono i0 i2 p
    | j + 1, hg, _ => simp at hg
  · have keep : ∀ c, c ≠ 0 → c ≠ 2 → Same (vw ω1 H1 c) (vw (cOut1 ω1 ω' H1) H' c) := fun c h0 h2 a o h => by
      have e := vw_c h
      have z := f2.2 a o (vw_mk (by unfold cIn1; rw [if_neg (by rw [e]; exact h0), if_neg (by rw [e]; exact h2)]) (vw_H h))
      refine vw_mk ?_ (vw_H z)
      unfold cOut1
      rw [if_pos ⟨by rw [vw_H h]; rfl, by rw [e]; exact h0, by rw [e]; exact h2⟩]
      exact e
    have k0 : Same (vw ω1 H1 0) (vw (cOut1 ω1 ω' H1) H' 0) := fun a o h => by
      have z := f2.1 a o (i0 a o h)
      refine vw_mk ?_ (vw_H z)
      unfold cOut1
      rw [if_neg (by rw [vw_c h]; intro q; exact q.2.1 rfl), vw_c z]
      rfl
    have ofc : ∀ c d, c ≠ 1 → (if c = 2 then 2 else 0) = d → Same (vw ω' H' c) (vw (cOut1 ω1 ω' H1) H' d) := fun c d h1 hd a o h => by
      refine vw_mk ?_ (vw_H h)
      unfold cOut1
      rw [if_neg, vw_c h]
      · exact hd
      · intro ⟨q1, q2, q3⟩
        obtain ⟨u, hu⟩ := Option.isSome_iff_exists.mp q1
        have z := f2.2 a u (vw_mk (by unfold cIn1; rw [if_neg q2, if_neg q3]) hu)
        exact h1 ((vw_c h).symm.trans (vw_c z))
    exact f v' g' Γ1 (cOut1 ω1 ω' H1) H' hk (S1.move k0 fun i _ _ => keep _ (by omega) (by omega)) (g'.mono (ofc 0 0 (by decide) rfl) (ofc 2 2 (by decide) rfl) p') (f1.trans ⟨k0, keep 1 (by decide) (by decide)⟩)
end

/-! ### assertions with something left open -/
def exG {α : Type} (f : α → Gp) : Gp := ⟨fun A v R => ∃ x, (f x).p A v R, fun a r ⟨x, h⟩ => ⟨x, (f x).mono a r h⟩⟩
def whenG (φ : Prop) (g : Gp) : Gp := ⟨fun A v R => φ ∧ g.p A v R, fun a r h => ⟨h.1, g.mono a r h.2⟩⟩
theorem Sta.sub {Γ : Ga} {ω : Col} {σ : L2.St} {H : Hp} (S : Sta Γ ω σ H) {i : Nat} {v : V} {g : Gp} (e : σ[i]? = some (some v)) (p : g.p (vw ω H 0) v (vw ω H (i + 3))) : Sta (Γ.set i (some g)) ω σ H :=
  S.set (Same.refl _) (fun _ _ _ _ => Same.refl _) e p
section
variable {Γ : Ga} {P : Nat → Bool} {t : TS} {D : Pe}
theorem ws_open {α : Type} {f : α → Gp} {i : Nat} (h : Γ[i]? = some (some (exG f))) (c : ∀ x, WS P t (Γ.set i (some (f x))) D) : WS P t Γ D := fun ω σ H S E m => by
  obtain ⟨v, e, x, p⟩ := S.2 i _ h
  exact c x ω σ H (S.sub e p) E m
theorem ws_when {φ : Prop} {g : Gp} {i : Nat} (h : Γ[i]? = some (some (whenG φ g))) (c : φ → WS P t (Γ.set i (some g)) D) : WS P t Γ D := fun ω σ H S E m => by
  obtain ⟨v, e, x, p⟩ := S.2 i _ h
  exact c x ω σ H (S.sub e p) E m
end
end G

namespace G
open PySem L2

/-! ### the readings by name -/
abbrev rAddI : R2 := rI0 fun i j => .int (i + j)
def rAddS : R2 := fun x y H Q => ∃ i j, x = .str i ∧ y = .str j ∧ i.length + j.length ≤ sizeLine ∧ Q (.str (i ++ j)) H
def rPlus (K : PySem.W.Frag) : R2 := rOr rAddI (rOr rCat (rOr rAddS (rCatT K)))
abbrev rSubI : R2 := rI0 fun i j => .int (i - j)
abbrev rMulI : R2 := rI CMul fun i j => .int (i * j)
abbrev rDivI : R2 := rI CDivW fun i j => .int (i / j)
abbrev rModI : R2 := rI (fun _ j => 0 < j) fun i j => .int (i % j)
abbrev rPowI : R2 := rI CPow fun i j => .int (i ^ j.toNat)
abbrev rLtI : R2 := rI0 fun i j => .bl (decide (i < j))
abbrev rLeI : R2 := rI0 fun i j => .bl (decide (i ≤ j))
abbrev rGtI : R2 := rI0 fun i j => .bl (decide (j < i))
abbrev rGeI : R2 := rI0 fun i j => .bl (decide (j ≤ i))
abbrev rNegI : V → Hp → VK → Prop := rU fun i => .int (-i)
def rIsN0 : R2 := fun x y H Q => y = .non ∧ Q (.bl (decide (x = .non))) H
def rNotN0 : R2 := fun x y H Q => y = .non ∧ Q (.bl (!decide (x = .non))) H
def rLenA (K : PySem.W.Frag) : List V → Hp → VK → Prop := fun xs H Q => ∃ x n, xs = [x] ∧ LenV K x H n ∧ Q (.int n) H
def rInt1 : List V → Hp → VK → Prop := fun xs H Q => (∃ i, xs = [.int i] ∧ Q (.int i) H) ∨ ∃ k, xs = [.bl k] ∧ Q (.int (if k then 1 else 0)) H
def rMax2 : List V → Hp → VK → Prop := fun xs H Q => ∃ i j, xs = [.int i, .int j] ∧ Q (.int (if j > i then j else i)) H
def rMin2 : List V → Hp → VK → Prop := fun xs H Q => ∃ i j, xs = [.int i, .int j] ∧ Q (.int (if j < i then j else i)) H
def rListOf (K : PySem.W.Frag) : List V → Hp → VK → Prop := fun xs H Q => ∃ p ys, xs = [.ref p] ∧ (SqL K H p ys ∨ SqT K H p ys) ∧ ∀ l, H l = none → Q (.ref l) (upd H l (.lst ys))
def cOr (r r' : List V → Hp → VK → Prop) : List V → Hp → VK → Prop := fun xs H Q => r xs H Q ∨ r' xs H Q
def rSortA (K : PySem.W.Frag) : List V → Hp → VK → Prop := cOr (rSortedI K) (rSortedPO K)
section
variable {X : Cx}
theorem c_or {f : Value} {r r' : List V → Hp → VK → Prop} (h : CallR X f r) (h' : CallR X f r') : CallR X f (cOr r r') := fun pins s σ H xs us Q I r q => by
  rcases q with q | q
  · exact h pins s σ H xs us Q I r q
  · exact h' pins s σ H xs us Q I r q
theorem op_plus : OpR X (binaryOp .Add) (rPlus X.K) := op_or op_add (op_or op_cat (op_or op_add_str op_catT))
theorem c_len : CallR X (.builtin "len") (rLenA X.K) := call_len
theorem c_int : CallR X (.type "int") rInt1 := call_int1
theorem c_max (hc : X.calm = true) : CallR X (.builtin "max") rMax2 := call_max2 hc
theorem c_min (hc : X.calm = true) : CallR X (.builtin "min") rMin2 := call_min2 hc
theorem c_list : CallR X (.type "list") (rListOf X.K) := call_list_of
theorem c_sorted : CallR X (.builtin "sorted") (rSortA X.K) := c_or cr_sortedI cr_sortedPO
end
section
variable {K : PySem.W.Frag} {Γ : Ga} {k : Gp → Ga → Prop} {ta tb te : TE} {tr : TA} {kt : Bool → Ga → Prop}
/-! ### what they do upon data -/
theorem od_addI {i j : Int} : OpD (rPlus K) (.int i) (.int j) (dP (.int (i + j))) := OpD.lft od_I0
theorem we_neg (h : WQ ta Γ fun q Γ1 => ∃ i, q = dP (.int i) ∧ k (dat (.int (-i))) Γ1) : WE (tUn rNegI ta) Γ k := we_un (h.imp fun q Γ1 ⟨i, e, hk⟩ => by
  subst e
  intro ω σ H v S p Q f
  cases DR.int_inv p
  exact ⟨i, rfl, f _ _ Γ1 ω H hk S (DR.int _) Fr.refl⟩)
/-! ### built-ins -/
/-- arguments that are all data, told one by one -/
theorem argD1 {d : PyData} : ArgD [.q (dP d)] [d] := ⟨rfl, trivial⟩
theorem argD2 {d e : PyData} : ArgD [.q (dP d), .q (dP e)] [d, e] := ⟨rfl, rfl, trivial⟩
theorem cb_lenL {ds : List PyData} : CbD (rLenA K) [.list ds] (dP (.int ds.length)) := fun A H vs s h Q f => by
  cases h with | cons x y =>
  cases y
  obtain ⟨a, xs, rfl, ha, hd⟩ := x.lst_inv
  exact ⟨_, xs.length, rfl, .inl ⟨xs, SqL.of (s _ _ ha), rfl⟩, by rw [hd.length]; exact f _ (DR.int _)⟩
theorem cb_lenT {ds : List PyData} : CbD (rLenA K) [.tuple ds] (dP (.int ds.length)) := fun A H vs s h Q f => by
  cases h with | cons x y =>
  cases y
  obtain ⟨a, xs, rfl, ha, hd⟩ := x.tup_inv
  exact ⟨_, xs.length, rfl, .inr ⟨xs, SqT.of (s _ _ ha), rfl⟩, by rw [hd.length]; exact f _ (DR.int _)⟩
theorem cb_int {i : Int} : CbD rInt1 [.int i] (dP (.int i)) := fun A H vs s h Q f => by
  cases h with | cons x y =>
  cases y
  cases x.int_inv
  exact .inl ⟨i, rfl, f _ (DR.int _)⟩
theorem cb_intB {b : Bool} : CbD rInt1 [.bool b] (dP (.int (if b then 1 else 0))) := fun A H vs s h Q f => by
  cases h with | cons x y =>
  cases y
  cases x.bl_inv
  exact .inr ⟨b, rfl, f _ (DR.int _)⟩
theorem cb_max {i j : Int} : CbD rMax2 [.int i, .int j] (dP (.int (if j > i then j else i))) := fun A H vs s h Q f => by
  cases h with | cons x y =>
  cases y with | cons z y =>
  cases y
  cases x.int_inv
  cases z.int_inv
  exact ⟨i, j, rfl, f _ (DR.int _)⟩
theorem cb_min {i j : Int} : CbD rMin2 [.int i, .int j] (dP (.int (if j < i then j else i))) := fun A H vs s h Q f => by
  cases h with | cons x y =>
  cases y with | cons z y =>
  cases y
  cases x.int_inv
  cases z.int_inv
  exact ⟨i, j, rfl, f _ (DR.int _)⟩
theorem cb_list {ds : List PyData} : CbL (rListOf K) [.list ds] (fun es => es = ds) := fun A H vs s h Q f => by
  cases h with | cons x y =>
  cases y
  obtain ⟨a, xs, rfl, ha, hd⟩ := x.lst_inv
  exact ⟨a, xs, rfl, .inl (SqL.of (s _ _ ha)), fun l hl => f ds xs l rfl hd hl⟩
theorem cb_sortI {ns : List Int} : CbL (rSortA K) [.list (ns.map .int)] (fun es => ∃ ns' : List Int, es = ns'.map .int ∧ ns'.Perm ns ∧ ns'.Pairwise (· ≤ ·)) := fun A H vs s h Q f => by
  cases h with | cons x y =>
  cases y
  obtain ⟨a, xs, rfl, ha, hd⟩ := x.lst_inv
  rw [hd.ints] at ha
  exact .inl ⟨a, ns, rfl, SqL.of (s _ _ ha), fun ns' p h1 h2 hp => f _ _ p ⟨ns', rfl, h1, h2⟩ DRs.of_ints hp⟩
end
end G

namespace G
open PySem L2
/-! ### operations upon data, one rule for all -/
def OpK (r : R2) (d e : PyData) (k : Gp → Ga → Prop) (Γ : Ga) : Prop := ∀ (ω : Col) (σ : L2.St) (H : Hp) (v w : V), Sta Γ ω σ H → DR (vw ω H 0) v d → DR (vw ω H 0) w e → ∀ Q : VK,
  (∀ (v : V) (g : Gp) (Γ' : Ga) (ω' : Col) (H' : Hp), k g Γ' → Sta Γ' ω' σ H' → g.p (vw ω' H' 0) v (vw ω' H' 2) → Fr ω ω' H H' → Q v H') → r v w H Q
def CbK (r : List V → Hp → VK → Prop) (ds : List PyData) (k : Gp → Ga → Prop) (Γ : Ga) : Prop := ∀ (ω : Col) (σ : L2.St) (H : Hp) (vs : List V), Sta Γ ω σ H → DRs (vw ω H 0) vs ds → ∀ Q : VK,
  (∀ (v : V) (g : Gp) (Γ' : Ga) (ω' : Col) (H' : Hp), k g Γ' → Sta Γ' ω' σ H' → g.p (vw ω' H' 0) v (vw ω' H' 2) → Fr ω ω' H H' → Q v H') → r vs H Q
section
variable {K : PySem.W.Frag} {Γ : Ga} {k : Gp → Ga → Prop} {ta tb te : TE} {tr : TA} {kt : Bool → Ga → Prop} {ka : List Arg → Ga → Prop}
theorem we_opK {r : R2} (h : WQ ta Γ fun q Γ1 => ∃ d, q = dP d ∧ WQ tb Γ1 fun q' Γ2 => ∃ e, q' = dP e ∧ OpK r d e k Γ2) : WE (tOp r ta tb) Γ k :=
  we_op (h.imp fun q Γ1 ⟨d, e1, h1⟩ => h1.imp fun q' Γ2 ⟨e, e2, hk⟩ => by
    subst e1 e2
    exact hk)
theorem ok_of {r : R2} {d e : PyData} {q : Per} (h : OpD r d e q) (hk : k (per q) Γ) : OpK r d e k Γ := fun ω σ H v w S a b Q f => h (vw ω H 0) H v w (fun _ _ z => vw_H z) a b Q fun z hz => f z (per q) Γ ω H hk S hz Fr.refl
theorem ok_plusI {i j : Int} (hk : k (dat (.int (i + j))) Γ) : OpK (rPlus K) (.int i) (.int j) k Γ := ok_of od_addI hk
theorem ok_plusL {d e : List PyData} (hl : d.length + e.length ≤ 100000) (hk : k (own (d ++ e)) Γ) : OpK (rPlus K) (.list d) (.list e) k Γ := fun ω σ H v w S pv pw Q f => by
  obtain ⟨a, xs, rfl, ha, hd⟩ := DR.lst_inv pv
  obtain ⟨b, ys, rfl, hb, he⟩ := DR.lst_inv pw
  exact .inr (.inl ⟨a, b, xs, ys, rfl, rfl, vw_H ha, vw_H hb, by rw [hd.length, he.length]; exact Nat.le_trans hl (by decide), fun p hp =>
    f _ _ Γ (paint ω p 2) _ hk (S.new 2 hp) ⟨p, xs ++ ys, rfl, paint_at, (hd.append he).mono (paint_same hp 0)⟩ (paint_fr hp)⟩)
theorem ok_sub {i j : Int} (hk : k (dat (.int (i - j))) Γ) : OpK rSubI (.int i) (.int j) k Γ := ok_of od_I0 hk
theorem ok_mul {i j : Int} (c : CMul i j) (hk : k (dat (.int (i * j))) Γ) : OpK rMulI (.int i) (.int j) k Γ := ok_of (od_I c) hk
theorem ok_div {i j : Int} (c : CDivW i j) (hk : k (dat (.int (i / j))) Γ) : OpK rDivI (.int i) (.int j) k Γ := ok_of (od_I c) hk
theorem ok_mod {i j : Int} (c : 0 < j) (hk : k (dat (.int (i % j))) Γ) : OpK rModI (.int i) (.int j) k Γ := ok_of (od_I c) hk
theorem ok_pow {i j : Int} (c : CPow i j) (hk : k (dat (.int (i ^ j.toNat))) Γ) : OpK rPowI (.int i) (.int j) k Γ := ok_of (od_I c) hk
theorem ok_lt {i j : Int} (hk : k (dat (.bool (decide (i < j)))) Γ) : OpK rLtI (.int i) (.int j) k Γ := ok_of od_B0 hk
theorem ok_le {i j : Int} (hk : k (dat (.bool (decide (i ≤ j)))) Γ) : OpK rLeI (.int i) (.int j) k Γ := ok_of od_B0 hk
theorem ok_gt {i j : Int} (hk : k (dat (.bool (decide (j < i)))) Γ) : OpK rGtI (.int i) (.int j) k Γ := ok_of od_B0 hk
theorem ok_ge {i j : Int} (hk : k (dat (.bool (decide (j ≤ i)))) Γ) : OpK rGeI (.int i) (.int j) k Γ := ok_of od_B0 hk
theorem shaped_int {i : Int} : SeqAt.shaped (.int i) = true := by rfl
theorem eqv_int {i j : Int} : PyData.eqv (.int i) (.int j) = decide (i = j) := by
  show (i == j) = decide (i = j)
  exact Bool.beq_eq_decide_eq i j
theorem ok_eqI {i j : Int} (hk : k (dat (.bool (decide (i = j)))) Γ) : OpK (rEqD K) (.int i) (.int j) k Γ := ok_of (od_eq shaped_int shaped_int) (by rw [eqv_int]; exact hk)
theorem ok_neI {i j : Int} (hk : k (dat (.bool (!decide (i = j)))) Γ) : OpK (rNeD K) (.int i) (.int j) k Γ := ok_of (od_ne shaped_int shaped_int) (by rw [eqv_int]; exact hk)
theorem ok_eq {d e : PyData} (hd : SeqAt.shaped d = true) (he : SeqAt.shaped e = true) (hk : k (dat (.bool (PyData.eqv d e))) Γ) : OpK (rEqD K) d e k Γ := ok_of (od_eq hd he) hk
theorem ok_ne {d e : PyData} (hd : SeqAt.shaped d = true) (he : SeqAt.shaped e = true) (hk : k (dat (.bool (!PyData.eqv d e))) Γ) : OpK (rNeD K) d e k Γ := ok_of (od_ne hd he) hk
theorem ok_in {d : PyData} {ds : List PyData} (hd : SeqAt.shaped d = true) (he : SeqAt.shaped (.list ds) = true) (hk : k (dat (.bool (ds.any fun z => PyData.eqv z d))) Γ) : OpK (rInD K) d (.list ds) k Γ := ok_of (od_in hd he) hk
theorem ok_ixL {ds : List PyData} {i : Int} {d : PyData} (h : atI ds i = some d) (hk : k (dat d) Γ) : OpK (rIx K) (.list ds) (.int i) k Γ := ok_of (od_ixL h) hk
/-- an own list looked at, on the right, on the left -/
theorem we_opR {r : R2} {i : Nat} (h : WQ ta Γ fun q Γ1 => ∃ d, q = dP d ∧ ∃ ds b, Γ1[i]? = some (some (own ds)) ∧ OpD r d (.list ds) (dP (.bool b)) ∧ k (dat (.bool b)) Γ1) : WE (tOp r ta (tVar i)) Γ k := fun ω σ H S Q f => h ω σ H S _ fun v q Γ1 ω1 H1 ⟨d, e, ds, b, hi, ho, hk⟩ S1 p f1 => by
  subst e
  obtain ⟨w, ew, a, vs, rfl, hr, hd⟩ := S1.2 i _ hi
  exact ⟨_, ew, ho H1 H1 v _ (Same.refl _) (DR.mono (fun _ _ z => vw_H z) d p) (.lst (vw_H hr) (hd.mono fun _ _ z => vw_H z)) Q fun z hz => by
    cases DR.bl_inv hz
    exact f _ _ Γ1 ω1 H1 hk S1 (DR.bl b) f1⟩
theorem we_opL {r : R2} {i : Nat} {ds : List PyData} (hi : Γ[i]? = some (some (own ds))) (h : WQ tb Γ fun q Γ1 => ∃ d, q = dP d ∧ ∃ b, Γ1[i]? = some (some (own ds)) ∧ OpD r (.list ds) d (dP (.bool b)) ∧ k (dat (.bool b)) Γ1) : WE (tOp r (tVar i) tb) Γ k := fun ω σ H S Q f => by
  obtain ⟨w, ew, p0⟩ := S.2 i _ hi
  refine ⟨_, ew, h ω σ H S _ fun v q Γ1 ω1 H1 ⟨d, e, b, hi, ho, hk⟩ S1 p f1 => ?_⟩
  subst e
  obtain ⟨w', ew', a, vs, e2, hr, hd⟩ := S1.2 i _ hi
  rw [ew] at ew'
  cases ew'
  subst e2
  exact ho H1 H1 _ v (Same.refl _) (.lst (vw_H hr) (hd.mono fun _ _ z => vw_H z)) (DR.mono (fun _ _ z => vw_H z) d p) Q fun z hz => by
    cases DR.bl_inv hz
    exact f _ _ Γ1 ω1 H1 hk S1 (DR.bl b) f1
/-! ### built-ins -/
theorem we_cbK {rc : List V → Hp → VK → Prop} (h : WA tr Γ fun as Γ1 => ∃ ds, ArgD as ds ∧ CbK rc ds k Γ1) : WE (tCB rc tr) Γ k := fun ω σ H S Q f => h ω σ H S _ fun vs as Γ1 ω1 H1 ⟨ds, e, hc⟩ S1 a f1 =>
  hc ω1 σ H1 vs S1 (e.drs a) Q fun v g Γ' ω' H' hk S' p f2 => f v g Γ' ω' H' hk S' p (f1.trans f2)
theorem ck_of {rc : List V → Hp → VK → Prop} {ds : List PyData} {q : Per} (h : CbD rc ds q) (hk : k (per q) Γ) : CbK rc ds k Γ := fun ω σ H vs S a Q f => h (vw ω H 0) H vs (fun _ _ z => vw_H z) a Q fun z hz => f z (per q) Γ ω H hk S hz Fr.refl
theorem ck_L {rc : List V → Hp → VK → Prop} {ds : List PyData} {P : List PyData → Prop} (h : CbL rc ds P) (hk : ∀ es, P es → k (own es) Γ) : CbK rc ds k Γ := fun ω σ H vs S a Q f => h (vw ω H 0) H vs (fun _ _ z => vw_H z) a Q fun es xs p hP hx hp =>
  f _ _ Γ (paint ω p 2) _ (hk es hP) (S.new 2 hp) ⟨p, xs, rfl, paint_at, hx.mono (paint_same hp 0)⟩ (paint_fr hp)
theorem ck_lenL {ds : List PyData} (hk : k (dat (.int ds.length)) Γ) : CbK (rLenA K) [.list ds] k Γ := ck_of cb_lenL hk
theorem ck_lenT {ds : List PyData} (hk : k (dat (.int ds.length)) Γ) : CbK (rLenA K) [.tuple ds] k Γ := ck_of cb_lenT hk
theorem ck_int {i : Int} (hk : k (dat (.int i)) Γ) : CbK rInt1 [.int i] k Γ := ck_of cb_int hk
theorem ck_intB {i : Bool} (hk : k (dat (.int (if i then 1 else 0))) Γ) : CbK rInt1 [.bool i] k Γ := ck_of cb_intB hk
theorem ck_max {i j : Int} (hk : k (dat (.int (if j > i then j else i))) Γ) : CbK rMax2 [.int i, .int j] k Γ := ck_of cb_max hk
theorem ck_min {i j : Int} (hk : k (dat (.int (if j < i then j else i))) Γ) : CbK rMin2 [.int i, .int j] k Γ := ck_of cb_min hk
theorem ck_list {ds : List PyData} (hk : k (own ds) Γ) : CbK (rListOf K) [.list ds] k Γ := ck_L cb_list fun es e => by subst e; exact hk
theorem argD0 : ArgD [] [] := trivial
theorem argD3 {d e f : PyData} : ArgD [.q (dP d), .q (dP e), .q (dP f)] [d, e, f] := ⟨rfl, rfl, rfl, trivial⟩
theorem argD4 {d e f g : PyData} : ArgD [.q (dP d), .q (dP e), .q (dP f), .q (dP g)] [d, e, f, g] := ⟨rfl, rfl, rfl, rfl, trivial⟩
theorem we_lenS' {i : Nat} {ds : List PyData} (h : Γ[i]? = some (some (own ds))) (hk : k (dat (.int ds.length)) Γ) : WE (tCB (rLenA K) (tCons (tVar i) tNil)) Γ k := we_lenS h hk
/-- no argument is one's own -/
def urn (m : Nat) : Gp := exG fun x : Int × Int × Int => whenG (0 ≤ x.2.2 ∧ x.2.2 + (m : Int) ≤ 2 ^ 60) (own [.int x.1, .int x.2.1, .int x.2.2])
theorem urn_mk {a b c : Int} {m : Nat} (h0 : 0 ≤ c) (h1 : c + (m : Int) ≤ 2 ^ 60) : Ent (own [.int a, .int b, .int c]) (urn m) := fun _ _ _ h => ⟨(a, b, c), ⟨h0, h1⟩, h⟩
/-- a list of ints that is only read: the script -/
def scrP (K : PySem.W.Frag) (ns : List Int) : Per := ⟨fun A v => ∃ a, v = .ref a ∧ SqL K A a (ns.map V.int), fun s ⟨a, e, h⟩ => ⟨a, e, Same.seq s h⟩⟩
theorem we_lenScr {i : Nat} {ns : List Int} (h : Γ[i]? = some (some (per (scrP K ns)))) (hk : k (dat (.int ns.length)) Γ) : WE (tCB (rLenA K) (tCons (tVar i) tNil)) Γ k := fun ω σ H S Q f => by
  obtain ⟨v, e, a, rfl, hs⟩ := S.2 i _ h
  exact ⟨_, e, _, (ns.map V.int).length, rfl, .inl ⟨_, Same.seq (fun _ _ z => vw_H z) hs, rfl⟩, by rw [List.length_map]; exact f _ _ Γ ω H hk S (DR.int _) Fr.refl⟩
theorem we_ixScr {i : Nat} {ns : List Int} (h : Γ[i]? = some (some (per (scrP K ns)))) (hb : WQ tb Γ fun q Γ1 => ∃ j n, q = dP (.int j) ∧ atI ns j = some n ∧ k (dat (.int n)) Γ1) : WE (tOp (rIx K) (tVar i) tb) Γ k := fun ω σ H S Q f => by
  obtain ⟨v, e, a, rfl, hs⟩ := S.2 i _ h
  refine ⟨_, e, hb ω σ H S _ fun w q Γ1 ω1 H1 ⟨j, n, eq, ha, hk⟩ S1 pq f1 => ?_⟩
  subst eq
  cases DR.int_inv pq
  refine .inl ⟨a, _, j, .int n, rfl, rfl, Same.seq (fun x o z => vw_H (f1.1 x o z)) hs, ?_, f _ _ Γ1 ω1 H1 hk S1 (DR.int _) f1⟩
  unfold atI at ha ⊢
  rw [List.length_map]
  cases e : ixN ns.length j with
  | none => rw [e] at ha; cases ha
  | some m =>
    rw [e] at ha
    show (ns.map V.int)[m]? = _
    rw [List.getElem?_map, show ns[m]? = some n from ha]
    rfl
end
end G
namespace G
open PySem L2
theorem ite_dec {c A B : Prop} [Decidable c] (h1 : c → A) (h2 : ¬ c → B) : if decide c = true then A else B := by
  by_cases h : c
  · rw [if_pos (decide_eq_true h)]; exact h1 h
  · rw [if_neg (by simp [h])]; exact h2 h
theorem ite_ndec {c A B : Prop} [Decidable c] (h1 : ¬ c → A) (h2 : c → B) : if (!decide c) = true then A else B := by
  by_cases h : c
  · rw [if_neg (by simp [h])]; exact h2 h
  · rw [if_pos (by simp [h])]; exact h1 h
theorem ite_b {b : Bool} {A B : Prop} (h1 : b = true → A) (h2 : b = false → B) : if b = true then A else B := by
  cases b with
  | true => exact iteT (h1 rfl)
  | false => exact iteF (h2 rfl)
theorem cmul_l {i j : Int} (h : -(2 ^ 64) < i) (h' : i < 2 ^ 64) : CMul i j := .inl ⟨h, h'⟩
theorem cmul_r {i j : Int} (h : -(2 ^ 64) < j) (h' : j < 2 ^ 64) : CMul i j := .inr ⟨h, h'⟩
theorem cdiv_of {i j : Int} {b : Nat} (h : 0 < j) (hb : j < 2 ^ b) (h0 : 0 < b) (h9 : b ≤ 9000) : CDivW i j := by
  refine wide_div h (b := b) ?_ h0 h9
  have e : ((2 : Int) ^ b) = ((2 ^ b : Nat) : Int) := by simp
  rw [e] at hb
  omega
end G
namespace G
open PySem L2
theorem les_nil : Les [] [] := trivial
theorem les_none {o : Option Gp} {Γ Γp : Ga} (l : Les Γ Γp) : Les (o :: Γ) (none :: Γp) := by cases o <;> exact l
theorem les_some {g g' : Gp} {Γ Γp : Ga} (e : Ent g g') (l : Les Γ Γp) : Les (some g :: Γ) (some g' :: Γp) := ⟨e, l⟩
end G
namespace G
open PySem L2
theorem ws_urn {Γ : Ga} {P : Nat → Bool} {t : TS} {D : Pe} {i m : Nat} (h : Γ[i]? = some (some (urn m))) (c : ∀ a b c : Int, 0 ≤ c → c + (m : Int) ≤ 2 ^ 60 → WS P t (Γ.set i (some (own [.int a, .int b, .int c]))) D) : WS P t Γ D := by
  refine ws_open h fun ⟨a, b, d⟩ => ?_
  refine ws_when (i := i) (φ := 0 ≤ d ∧ d + (m : Int) ≤ 2 ^ 60) (g := own [.int a, .int b, .int d]) ?_ fun z => ?_
  · rw [set_eq, if_pos rfl, if_pos (List.getElem?_eq_some_iff.mp h).1]
  · rw [List.set_set]
    exact c a b d z.1 z.2
end G

namespace G
open PySem L2
/-! ### pairs of ints -/
def tieD (t : Int × Int) : PyData := .tuple [.int t.1, .int t.2]
theorem canLay_all : ∀ {ds : List PyData}, (∀ d ∈ ds, d.canLay0 = true) → PyData.canLayAll0 ds = true
  | [], _ => by simp [PyData.canLayAll0]
  | d :: ds, h => by
    have h1 := h d (by simp)
    have h2 := canLay_all (ds := ds) fun e he => h e (List.mem_cons_of_mem _ he)
    simp [PyData.canLayAll0, h1, h2]
theorem depth_all {n : Nat} : ∀ {ds : List PyData}, (∀ d ∈ ds, d.depth ≤ n) → PyData.depthAll ds ≤ n
  | [], _ => by simp [PyData.depthAll]
  | d :: ds, h => by
    have h1 := h d (by simp)
    have h2 := depth_all (n := n) (ds := ds) fun e he => h e (by simp [he])
    simp only [PyData.depthAll]
    omega
/-- what may be compared: no dict within, so deep -/
structure Lay (n : Nat) (d : PyData) : Prop where
  lay : d.canLay0 = true
  dep : d.depth ≤ n
theorem Lay.shaped {n : Nat} {d : PyData} (h : Lay n d) (hn : n ≤ 64 := by decide) : SeqAt.shaped d = true := by
  show (d.canLay0 && decide (d.depth ≤ 64)) = true
  rw [Bool.and_eq_true]
  exact ⟨h.lay, decide_eq_true (Nat.le_trans h.dep hn)⟩
theorem lay_list {n : Nat} {ds : List PyData} (h : ∀ d ∈ ds, Lay n d) : Lay (n + 1) (.list ds) := ⟨by simp only [PyData.canLay0]; exact canLay_all fun d hd => (h d hd).lay, by
  simp only [PyData.depth]
  have := depth_all (n := n) (ds := ds) fun d hd => (h d hd).dep
  omega⟩
theorem Lay.up {n m : Nat} {d : PyData} (h : Lay n d) (hm : n ≤ m) : Lay m d := ⟨h.lay, Nat.le_trans h.dep hm⟩
theorem lay_int {i : Int} : Lay 0 (.int i) := ⟨by simp [PyData.canLay0], by simp [PyData.depth]⟩
theorem lay_none : Lay 0 .none := ⟨by simp [PyData.canLay0], by simp [PyData.depth]⟩
theorem lay_str {i : Str} (h : PyData.strOk i = true) : Lay 0 (.str i) := ⟨by simp [PyData.canLay0, h], by simp [PyData.depth]⟩
theorem lay_ints {ns : List Int} : Lay 1 (.list (ns.map .int)) := lay_list fun d hd => by
  obtain ⟨t, _, rfl⟩ := List.mem_map.mp hd
  exact lay_int
theorem eqvAll_inj {α : Type} [DecidableEq α] {f : α → PyData} (h : ∀ x y, PyData.eqv (f x) (f y) = decide (x = y)) : ∀ {xs ys : List α}, PyData.eqvAll (xs.map f) (ys.map f) = decide (xs = ys)
  | [], [] => by simp [PyData.eqvAll]
  | [], _ :: _ => by simp [PyData.eqvAll]
  | _ :: _, [] => by simp [PyData.eqvAll]
  | x :: xs, y :: ys => by
    simp only [List.map_cons, PyData.eqvAll, h, eqvAll_inj h]
    by_cases h1 : x = y <;> by_cases h2 : xs = ys <;> simp [h1, h2]
theorem eqv_list_inj {α : Type} [DecidableEq α] {f : α → PyData} (h : ∀ x y, PyData.eqv (f x) (f y) = decide (x = y)) {xs ys : List α} : PyData.eqv (.list (xs.map f)) (.list (ys.map f)) = decide (xs = ys) := by
  simp only [PyData.eqv]
  exact eqvAll_inj h
theorem any_inj {α : Type} [BEq α] [LawfulBEq α] [DecidableEq α] {f : α → PyData} (h : ∀ x y, PyData.eqv (f x) (f y) = decide (x = y)) {xs : List α} {y : α} : ((xs.map f).any fun z => PyData.eqv z (f y)) = decide (y ∈ xs) := by
  induction xs with
  | nil => simp
  | cons x xs ih =>
    rw [List.map_cons, List.any_cons, ih, h]
    by_cases h1 : x = y
    · simp [h1]
    · have : ¬ y = x := fun e => h1 e.symm
      simp [h1, this]
theorem any_ints {ns : List Int} {n : Int} : ((ns.map PyData.int).any fun z => PyData.eqv z (.int n)) = decide (n ∈ ns) := by rw [any_inj fun _ _ => eqv_int]
/-! ### sorted of pairs -/
def keyP (A : Hp) : V → Int × Int
  | .ref t => match A t with
    | some (.tup [.int i, .int j]) => (i, j)
    | _ => (0, 0)
  | _ => (0, 0)
theorem key_tie {A : Hp} {v : V} {t : Int × Int} (h : DR A v (tieD t)) : keyP A v = t ∧ ∃ a, v = .ref a ∧ A a = some (.tup [.int t.1, .int t.2]) := by
  obtain ⟨a, xs, rfl, ha, hx⟩ := DR.tup_inv h
  cases hx with | cons x y =>
  cases y with | cons z y =>
  cases y
  cases x.int_inv
  cases z.int_inv
  refine ⟨?_, a, rfl, ha⟩
  show (match A a with | some (.tup [.int i, .int j]) => (i, j) | _ => (0, 0)) = t
  rw [ha]
section
variable {Γ : Ga} {k : Gp → Ga → Prop} {ta tb te : TE} {K : PySem.W.Frag}
theorem ck_sortI {ns : List Int} (hk : ∀ ns' : List Int, ns'.Perm ns → ns'.Pairwise (· ≤ ·) → k (own (ns'.map .int)) Γ) : CbK (rSortA K) [.list (ns.map .int)] k Γ := ck_L cb_sortI fun es ⟨ts', e, h1, h2⟩ => by subst e; exact hk ts' h1 h2
end
end G
namespace G
open PySem L2
/-- what a slot owns is handed on -/
theorem we_varM {Γ : Ga} {k : Gp → Ga → Prop} {i : Nat} {g : Gp} (h : Γ[i]? = some (some g)) (c : k g (Γ.set i none)) : WE (tVar i) Γ k := fun ω σ H S Q f => by
  obtain ⟨v, e, p⟩ := S.2 i _ h
  have s0 : Same (vw ω H 0) (vw (give ω (i + 3) 2) H 0) := give_ne (by omega) (by omega)
  refine ⟨v, e, f v g _ (give ω (i + 3) 2) H c ⟨by rw [List.length_set]; exact S.1, fun j g' hj => ?_⟩ (g.mono s0 give_c p) ⟨s0, give_ne (by omega) (by omega)⟩⟩
  rw [set_eq] at hj
  by_cases hij : i = j
  · rw [if_pos hij] at hj
    split at hj <;> cases hj
  · rw [if_neg hij] at hj
    obtain ⟨w, e', p'⟩ := S.2 j _ hj
    exact ⟨w, e', g'.mono s0 (give_ne (by omega) (by omega)) p'⟩
theorem cpow_of {i j : Int} (h0 : 0 ≤ j) (h1 : j ≤ 1000000) (h2 : i.natAbs < 2 ^ 64) : CPow i j := ⟨h0, h1, h2⟩
end G
namespace G
open PySem L2
theorem nd0 : ([] : List Nat).Nodup := List.nodup_nil
theorem nd1 {i : Nat} : [i].Nodup := by simp
end G
namespace G
open PySem L2
theorem urn_le {m m' : Nat} (h : m' ≤ m) : Ent (urn m) (urn m') := fun A v R ⟨x, z, p⟩ => ⟨x, ⟨z.1, by have := z.2; omega⟩, p⟩
end G
namespace G
open PySem L2
theorem wa_slotU {Γ : Ga} {ka : List Arg → Ga → Prop} {tr : TA} {i m : Nat} (hi : Γ[i]? = some (some (urn m))) (h : WA tr Γ fun as Γ2 => ka (.s i :: as) Γ2) : WA (tCons (tVar i) tr) Γ ka := wa_slot ⟨_, hi⟩ h
end G
namespace G
open PySem L2
theorem ws_seqA {P : Nat → Bool} {te : TE} {g : TG} {u : TS} {Γ : Ga} {D : Pe} (h : WS P (tAsg te g) Γ (D.to fun Γ' => WS P u Γ' D)) : WS P (tSeq (tAsg te g) u) Γ D := ws_seq h
theorem ws_seqD {P : Nat → Bool} {te : TE} {u : TS} {Γ : Ga} {D : Pe} (h : WS P (tDrop te) Γ (D.to fun Γ' => WS P u Γ' D)) : WS P (tSeq (tDrop te) u) Γ D := ws_seq h
end G
namespace G
open PySem L2
section
variable {K : PySem.W.Frag} {Γ : Ga} {k : Gp → Ga → Prop} {ta tb : TE}
theorem we_inS {i : Nat} {ds0 : List PyData} (hi : Γ[i]? = some (some (own ds0))) (h : WQ ta Γ fun q Γ1 => ∃ d, q = dP d ∧ ∃ ds, Γ1[i]? = some (some (own ds)) ∧ (SeqAt.shaped d = true ∧ SeqAt.shaped (.list ds) = true) ∧ k (dat (.bool (ds.any fun z => PyData.eqv z d))) Γ1) : WE (tOp (rInD K) ta (tVar i)) Γ k :=
  we_opR (h.imp fun q Γ1 ⟨d, e, ds, h1, h2, h3⟩ => ⟨d, e, ds, _, h1, od_in h2.1 h2.2, h3⟩)
theorem we_notInS {i : Nat} {ds0 : List PyData} (hi : Γ[i]? = some (some (own ds0))) (h : WQ ta Γ fun q Γ1 => ∃ d, q = dP d ∧ ∃ ds, Γ1[i]? = some (some (own ds)) ∧ (SeqAt.shaped d = true ∧ SeqAt.shaped (.list ds) = true) ∧ k (dat (.bool (!ds.any fun z => PyData.eqv z d))) Γ1) : WE (tOp (rNotInD K) ta (tVar i)) Γ k :=
  we_opR (h.imp fun q Γ1 ⟨d, e, ds, h1, h2, h3⟩ => ⟨d, e, ds, _, h1, od_notIn h2.1 h2.2, h3⟩)
theorem we_eqS {i : Nat} {ds : List PyData} (hi : Γ[i]? = some (some (own ds))) (h : WQ tb Γ fun q Γ1 => ∃ d, q = dP d ∧ Γ1[i]? = some (some (own ds)) ∧ (SeqAt.shaped (.list ds) = true ∧ SeqAt.shaped d = true) ∧ k (dat (.bool (PyData.eqv (.list ds) d))) Γ1) : WE (tOp (rEqD K) (tVar i) tb) Γ k :=
  we_opL hi (h.imp fun q Γ1 ⟨d, e, h1, h2, h3⟩ => ⟨d, e, _, h1, od_eq h2.1 h2.2, h3⟩)
theorem we_neS {i : Nat} {ds : List PyData} (hi : Γ[i]? = some (some (own ds))) (h : WQ tb Γ fun q Γ1 => ∃ d, q = dP d ∧ Γ1[i]? = some (some (own ds)) ∧ (SeqAt.shaped (.list ds) = true ∧ SeqAt.shaped d = true) ∧ k (dat (.bool (!PyData.eqv (.list ds) d))) Γ1) : WE (tOp (rNeD K) (tVar i) tb) Γ k :=
  we_opL hi (h.imp fun q Γ1 ⟨d, e, h1, h2, h3⟩ => ⟨d, e, _, h1, od_ne h2.1 h2.2, h3⟩)
end
end G

namespace G
open PySem L2
theorem un65 {k : Nat} {A : Around} (hr : Room k A) : A.units + 65 < cLine := by have := hr.un; omega
theorem bt_len : bootBuiltins "len" = some (.builtin "len") := by decide +kernel
theorem bt_max : bootBuiltins "max" = some (.builtin "max") := by decide +kernel
theorem bt_min : bootBuiltins "min" = some (.builtin "min") := by decide +kernel
theorem bt_sorted : bootBuiltins "sorted" = some (.builtin "sorted") := by decide +kernel
theorem bt_all : bootBuiltins "all" = some (.builtin "all") := by decide +kernel
theorem bt_isinstance : bootBuiltins "isinstance" = some (.builtin "isinstance") := by decide +kernel
theorem bt_int : bootBuiltins "int" = some (.type "int") := by decide +kernel
theorem bt_bool : bootBuiltins "bool" = some (.type "bool") := by decide +kernel
theorem bt_list : bootBuiltins "list" = some (.type "list") := by decide +kernel
/-! ### isinstance, all -/
abbrev rIsiA (K : PySem.W.Frag) : List V → Hp → VK → Prop := rIsi K
abbrev rAllA (K : PySem.W.Frag) : List V → Hp → VK → Prop := rAll K
theorem c_isi {X : Cx} : CallR X (.builtin "isinstance") (rIsiA X.K) := call_isi
theorem c_all {X : Cx} (hc : X.calm = true) : CallR X (.builtin "all") (rAllA X.K) := cr_all hc
def tyD : PyData → Option String
  | .none => some "NoneType"
  | .bool _ => some "bool"
  | .int _ => some "int"
  | .str _ => some "str"
  | .list _ => some "list"
  | .tuple _ => some "tuple"
  | .dict _ => some "dict"
theorem tyD_ok {K : PySem.W.Frag} {H : Hp} {v : V} {d : PyData} {n : String} (h : DR H v d) (e : tyD d = some n) : TyX K H v (.type n) := by
  cases h with
  | non => cases e; exact .base .non
  | bl b => cases e; exact .base (.bl b)
  | int i => cases e; exact .base (.int i)
  | str x => cases e; exact .base (.str x)
  | lst a b => cases e; exact .base (.lst a)
  | tup a b => cases e; exact .base (.tup a)
  | dic a => cases e; exact .base (.dK a)
section
variable {K : PySem.W.Frag} {Γ : Ga} {k : Gp → Ga → Prop} {ta tb te : TE} {tr : TA}
theorem we_isi {m : String} (h : WQ ta Γ fun q Γ1 => ∃ d, q = dP d ∧ ∃ n b, tyD d = some n ∧ kitB n m = some b ∧ k (dat (.bool b)) Γ1) : WE (tCB (rIsiA K) (tCons ta (tCons (tC (.ty m)) tNil))) Γ k := fun ω σ H S Q f => h ω σ H S _ fun v q Γ1 ω1 H1 ⟨d, e, n, b, e1, e2, hk⟩ S1 p f1 => by
  subst e
  exact ⟨v, .ty m, .type n, .type m, b, rfl, .ty m, tyD_ok (DR.mono (fun _ _ z => vw_H z) d p) e1, kit_ty e2, f _ _ Γ1 ω1 H1 hk S1 (DR.bl b) f1⟩
theorem kb_ii : kitB "int" "int" = some true := by decide +kernel
theorem kb_bi : kitB "bool" "int" = some true := by decide +kernel
theorem kb_ni : kitB "NoneType" "int" = some false := by decide +kernel
theorem kb_si : kitB "str" "int" = some false := by decide +kernel
theorem kb_li : kitB "list" "int" = some false := by decide +kernel
theorem kb_ti : kitB "tuple" "int" = some false := by decide +kernel
theorem kb_bb : kitB "bool" "bool" = some true := by decide +kernel
theorem kb_nl : kitB "NoneType" "list" = some false := by decide +kernel
theorem kb_bl : kitB "bool" "list" = some false := by decide +kernel
theorem kb_il : kitB "int" "list" = some false := by decide +kernel
theorem kb_sl : kitB "str" "list" = some false := by decide +kernel
theorem kb_ll : kitB "list" "list" = some true := by decide +kernel
theorem kb_tl : kitB "tuple" "list" = some false := by decide +kernel
theorem kb_nt : kitB "NoneType" "tuple" = some false := by decide +kernel
theorem kb_bt : kitB "bool" "tuple" = some false := by decide +kernel
theorem kb_it : kitB "int" "tuple" = some false := by decide +kernel
theorem kb_st : kitB "str" "tuple" = some false := by decide +kernel
theorem kb_lt : kitB "list" "tuple" = some false := by decide +kernel
theorem kb_tt : kitB "tuple" "tuple" = some true := by decide +kernel
def isInt : PyData → Bool
  | .int _ => true
  | .bool _ => true
  | _ => false
def isBl : PyData → Bool
  | .bool _ => true
  | _ => false
def isLst : PyData → Bool
  | .list _ => true
  | _ => false
def isTup : PyData → Bool
  | .tuple _ => true
  | _ => false
theorem kb_dint : kitB "dict" "int" = some false := by decide +kernel
theorem isi_int : ∀ {d : PyData}, (tyD d).isSome = true → ∃ n, tyD d = some n ∧ kitB n "int" = some (isInt d)
  | .none, _ => ⟨_, rfl, kb_ni⟩
  | .bool _, _ => ⟨_, rfl, kb_bi⟩
  | .int _, _ => ⟨_, rfl, kb_ii⟩
  | .str _, _ => ⟨_, rfl, kb_si⟩
  | .list _, _ => ⟨_, rfl, kb_li⟩
  | .tuple _, _ => ⟨_, rfl, kb_ti⟩
  | .dict _, _ => ⟨_, rfl, kb_dint⟩
theorem kb_dlist : kitB "dict" "list" = some false := by decide +kernel
theorem isi_list : ∀ {d : PyData}, (tyD d).isSome = true → ∃ n, tyD d = some n ∧ kitB n "list" = some (isLst d)
  | .none, _ => ⟨_, rfl, kb_nl⟩
  | .bool _, _ => ⟨_, rfl, kb_bl⟩
  | .int _, _ => ⟨_, rfl, kb_il⟩
  | .str _, _ => ⟨_, rfl, kb_sl⟩
  | .list _, _ => ⟨_, rfl, kb_ll⟩
  | .tuple _, _ => ⟨_, rfl, kb_tl⟩
  | .dict _, _ => ⟨_, rfl, kb_dlist⟩
theorem kb_dtuple : kitB "dict" "tuple" = some false := by decide +kernel
theorem isi_tuple : ∀ {d : PyData}, (tyD d).isSome = true → ∃ n, tyD d = some n ∧ kitB n "tuple" = some (isTup d)
  | .none, _ => ⟨_, rfl, kb_nt⟩
  | .bool _, _ => ⟨_, rfl, kb_bt⟩
  | .int _, _ => ⟨_, rfl, kb_it⟩
  | .str _, _ => ⟨_, rfl, kb_st⟩
  | .list _, _ => ⟨_, rfl, kb_lt⟩
  | .tuple _, _ => ⟨_, rfl, kb_tt⟩
  | .dict _, _ => ⟨_, rfl, kb_dtuple⟩
theorem DR.ty {H : Hp} {v : V} {d : PyData} (h : DR H v d) : (tyD d).isSome = true := by cases h <;> rfl
/-- isinstance(x, int), (.., list), (.., tuple) of any data: the answer -/
theorem we_isInt (h : WQ ta Γ fun q Γ1 => ∃ d, q = dP d ∧ k (dat (.bool (isInt d))) Γ1) : WE (tCB (rIsiA K) (tCons ta (tCons (tC (.ty "int")) tNil))) Γ k := fun ω σ H S Q f => h ω σ H S _ fun v q Γ1 ω1 H1 ⟨d, e, hk⟩ S1 p f1 => by
  subst e
  obtain ⟨n, e1, e2⟩ := isi_int (DR.ty p)
  exact ⟨v, .ty "int", .type n, .type "int", _, rfl, .ty "int", tyD_ok (DR.mono (fun _ _ z => vw_H z) d p) e1, kit_ty e2, f _ _ Γ1 ω1 H1 hk S1 (DR.bl _) f1⟩
theorem we_isLst (h : WQ ta Γ fun q Γ1 => ∃ d, q = dP d ∧ k (dat (.bool (isLst d))) Γ1) : WE (tCB (rIsiA K) (tCons ta (tCons (tC (.ty "list")) tNil))) Γ k := fun ω σ H S Q f => h ω σ H S _ fun v q Γ1 ω1 H1 ⟨d, e, hk⟩ S1 p f1 => by
  subst e
  obtain ⟨n, e1, e2⟩ := isi_list (DR.ty p)
  exact ⟨v, .ty "list", .type n, .type "list", _, rfl, .ty "list", tyD_ok (DR.mono (fun _ _ z => vw_H z) d p) e1, kit_ty e2, f _ _ Γ1 ω1 H1 hk S1 (DR.bl _) f1⟩
theorem we_isTup (h : WQ ta Γ fun q Γ1 => ∃ d, q = dP d ∧ k (dat (.bool (isTup d))) Γ1) : WE (tCB (rIsiA K) (tCons ta (tCons (tC (.ty "tuple")) tNil))) Γ k := fun ω σ H S Q f => h ω σ H S _ fun v q Γ1 ω1 H1 ⟨d, e, hk⟩ S1 p f1 => by
  subst e
  obtain ⟨n, e1, e2⟩ := isi_tuple (DR.ty p)
  exact ⟨v, .ty "tuple", .type n, .type "tuple", _, rfl, .ty "tuple", tyD_ok (DR.mono (fun _ _ z => vw_H z) d p) e1, kit_ty e2, f _ _ Γ1 ω1 H1 hk S1 (DR.bl _) f1⟩
theorem DRs.bools : ∀ {bs : List Bool} {vs : List V}, DRs H vs (bs.map PyData.bool) → vs = bs.map V.bl
  | [], _, h => by cases h; rfl
  | n :: ns, _, h => by
    cases h with | cons a b => cases a; rw [DRs.bools b]; rfl
theorem ck_all {bs : List Bool} (hk : k (dat (.bool (bs.all id))) Γ) : CbK (rAllA K) [.list (bs.map .bool)] k Γ := ck_of (q := dP (.bool (bs.all id))) (fun A H vs s h Q f => by
  cases h with | cons x y =>
  cases y
  obtain ⟨a, xs, rfl, ha, hd⟩ := x.lst_inv
  rw [hd.bools] at ha
  exact ⟨a, bs, rfl, SqL.of (s _ _ ha), f _ (DR.bl _)⟩) hk
end
end G

/-! ### len(o) by an own __len__ -/
namespace GLen
open PySem PySem.Spec PyProof.Rows L2 PySem.Builtin
end GLen
namespace G
open PySem L2
/-- len of an instance of the class at C, by its own def -/
def rLenOwn (C : Addr) (sp : Sp) (E : XK) : List V → Hp → VK → Prop := fun xs H Q => ∃ a dx fs, xs = [V.ref a] ∧ H a = some (.ins C dx fs) ∧ sp [.ref a] H (fun z H' => ∃ n : Int, z = .int n ∧ 0 ≤ n ∧ n < 2 ^ 63 ∧ Q (.int n) H') E
/-! ### instances: their attributes are data -/
inductive Fds (A : Hp) : List (Str × V) → List (Str × PyData) → Prop
  | nil : Fds A [] []
  | cons {f : Str} {v : V} {d : PyData} {fs : List (Str × V)} {ds : List (Str × PyData)} : DR A v d → Fds A fs ds → Fds A ((f, v) :: fs) ((f, d) :: ds)
theorem Fds.mono {A A' : Hp} (s : Same A A') : ∀ {fs : List (Str × V)} {ds : List (Str × PyData)}, Fds A fs ds → Fds A' fs ds
  | _, _, .nil => .nil
  | _, _, .cons a b => .cons (a.mono s) (Fds.mono s b)
theorem Fds.len {A : Hp} : ∀ {fs : List (Str × V)} {ds : List (Str × PyData)}, Fds A fs ds → fs.length = ds.length
  | _, _, .nil => rfl
  | _, _, .cons _ b => congrArg Nat.succ (Fds.len b)
def lookD (f : Str) : List (Str × PyData) → Option PyData
  | [] => none
  | (g, d) :: r => if g = f then some d else lookD f r
def putD (f : Str) (d : PyData) : List (Str × PyData) → List (Str × PyData)
  | [] => [(f, d)]
  | (g, e) :: r => if g = f then (g, d) :: r else (g, e) :: putD f d r
theorem Fds.none {A : Hp} {f : Str} : ∀ {fs : List (Str × V)} {ds : List (Str × PyData)}, Fds A fs ds → lookD f ds = none → fs.lookup f = none
  | _, _, .nil, _ => rfl
  | _, _, .cons (f := g) (v := v) a b, h => by
    unfold lookD at h
    by_cases e : g = f
    · rw [if_pos e] at h
      cases h
    · rw [if_neg e] at h
      rw [List.lookup_cons, beq_eq_false_iff_ne.mpr (Ne.symm e)]
      exact Fds.none b h
theorem Fds.put {A : Hp} {f : Str} {v : V} {d : PyData} : ∀ {fs : List (Str × V)} {ds : List (Str × PyData)}, Fds A fs ds → DR A v d → Fds A (putF f v fs) (putD f d ds)
  | _, _, .nil, h => .cons h .nil
  | _, _, .cons (f := g) (v := u) (d := e) (fs := fs) (ds := ds) a b, h => by
    show Fds A (if g = f then (g, v) :: fs else (g, u) :: putF f v fs) (if g = f then (g, d) :: ds else (g, e) :: putD f d ds)
    by_cases e : g = f
    · rw [if_pos e, if_pos e]
      exact .cons h b
    · rw [if_neg e, if_neg e]
      exact .cons a (Fds.put b h)
def objP (C : Addr) (ds : List (Str × PyData)) : Per := ⟨fun A v => ∃ a dx fs, v = .ref a ∧ A a = some (.ins C dx fs) ∧ Fds A fs ds, fun s ⟨a, dx, fs, e, h, t⟩ => ⟨a, dx, fs, e, s _ _ h, t.mono s⟩⟩
section
variable {K : PySem.W.Frag} {P : Nat → Bool} {Γ : Ga} {D : Pe} {k : Gp → Ga → Prop} {te tv : TE} {ta : TA} {C : Addr} {ds : List (Str × PyData)} {f m : Str} {n : Nat} {F : Fw} {E : XK}
/-- a call with what stands still alone -/
theorem call_per {Γ1 : Ga} {ω1 : Col} {σ : L2.St} {H1 : Hp} {qs : List Per} {vs : List V} {Q : VK} {kx : Value → Prop} (S1 : Sta Γ1 ω1 σ H1) (hq : ∀ (j : Nat) (q : Per) (v : V), qs[j]? = some q → vs[j]? = some v → q.q (vw ω1 H1 0) v) (hl : vs.length = qs.length) (hn : qs.length = n)
    (hF : F (qs.map per) (fun g _ => k g Γ1) fun c _ => kx c)
    (c : ∀ v g ω' H', k g Γ1 → Sta Γ1 ω' σ H' → Gp.p g (vw ω' H' 0) v (vw ω' H' 2) → Fr ω1 ω' H1 H' → Q v H')
    (cx : ∀ cl ω' H', kx cl → Sta Γ1 ω' σ H' → Fr ω1 ω' H1 H' → E cl none H') : SpG n F vs H1 Q E := by
  have hns : ∀ qs : List Per, slots (qs.map Arg.q) = [] := fun qs => by
    induction qs with
    | nil => rfl
    | cons q qs ih => exact ih
  have hgs : ∀ qs : List Per, gsOf Γ1 (qs.map Arg.q) = qs.map per := fun qs => by
    induction qs with
    | nil => rfl
    | cons q qs ih => exact congrArg (per q :: ·) ih
  have hbk : ∀ (qs : List Per) (Γp : Ga), back Γ1 (qs.map Arg.q) Γp = Γ1 := fun qs => by
    induction qs with
    | nil => intro Γp; rfl
    | cons q qs ih => intro Γp; cases Γp with
      | nil => exact ih []
      | cons o r => exact ih r
  have hok : ∀ (qs : List Per) (vs : List V), vs.length = qs.length → (∀ (j : Nat) (q : Per) (v : V), qs[j]? = some q → vs[j]? = some v → q.q (vw ω1 H1 0) v) → ArgsOk σ (vw ω1 H1 0) (qs.map Arg.q) vs := fun qs => by
    induction qs with
    | nil => intro vs hl _; rw [List.eq_nil_of_length_eq_zero hl]; exact .nil
    | cons q qs ih => intro vs hl h; cases vs with
      | nil => cases hl
      | cons v vs => exact .cons (h 0 q v rfl rfl) (ih vs (Nat.succ.inj hl) fun j q' v' a b => h (j + 1) q' v' (by simpa using a) (by simpa using b))
  refine call_core (as := qs.map Arg.q) (k := fun g Γ' => Γ' = Γ1 ∧ k g Γ1) (kx := fun cl Γ' => Γ' = Γ1 ∧ kx cl) S1 (hok qs vs hl hq) (by rw [List.length_map]; exact hn) (by rw [hns]; exact List.nodup_nil) ?_ (fun v g Γ' ω' H' ⟨e, hk⟩ S' p f => ?_) fun cl Γ' ω' H' ⟨e, hx⟩ S' f => ?_
  · rw [hgs]
    have e1 : (fun g Γp => back Γ1 (qs.map Arg.q) Γp = Γ1 ∧ k g Γ1) = fun g _ => k g Γ1 := by
      funext g Γp
      rw [hbk]
      exact propext ⟨fun h => h.2, fun h => ⟨rfl, h⟩⟩
    have e2 : (fun cl Γp => back Γ1 (qs.map Arg.q) Γp = Γ1 ∧ kx cl) = fun cl _ => kx cl := by
      funext g Γp
      rw [hbk]
      exact propext ⟨fun h => h.2, fun h => ⟨rfl, h⟩⟩
    rw [e1, e2]
    exact hF
  · subst e
    exact c v g ω' H' hk S' p f
  · subst e
    exact cx cl ω' H' hx S' f
/-- len(o) -/
theorem we_lenO {i : Nat} (h : Γ[i]? = some (some (per (objP C ds)))) (hF : F [per (objP C ds)] (fun g _ => ∃ n : Int, g = dat (.int n) ∧ 0 ≤ n ∧ n < 2 ^ 63 ∧ k (dat (.int n)) Γ) fun _ _ => False) : WE (tCB (rLenOwn C (SpG 1 F) E) (tCons (tVar i) tNil)) Γ k := fun ω σ H S Q q => by
  obtain ⟨v, e, hp⟩ := S.2 i _ h
  have hp' := hp
  obtain ⟨a, dx, fs, rfl, ha, hf⟩ := hp'
  refine ⟨_, e, a, dx, fs, rfl, vw_H ha, call_per (qs := [objP C ds]) (k := fun g _ => ∃ n : Int, g = dat (.int n) ∧ 0 ≤ n ∧ n < 2 ^ 63 ∧ k (dat (.int n)) Γ) (kx := fun _ => False) S (fun j q v h1 h2 => ?_) rfl rfl hF (fun v g ω' H' ⟨n, eg, h0, h1, hk⟩ S' p f => ?_) fun _ _ _ hx => hx.elim⟩
  · match j, h1, h2 with
    | 0, h1, h2 =>
      cases h1
      cases h2
      exact hp
    | j + 1, h1, _ => simp at h1
  · subst eg
    cases DR.int_inv p
    exact ⟨n, rfl, h0, h1, q _ _ Γ ω' H' hk S' (DR.int n) f⟩
/-- o.f, a property -/
theorem we_prop {i : Nat} (h : Γ[i]? = some (some (per (objP C ds)))) (hF : F [per (objP C ds)] (fun g _ => k g Γ) fun _ _ => False) : WE (tProp C (SpG 1 F) [] E (tVar i)) Γ k := fun ω σ H S Q q => by
  obtain ⟨v, e, hp⟩ := S.2 i _ h
  have hp' := hp
  obtain ⟨a, dx, fs, rfl, ha, hf⟩ := hp'
  refine ⟨_, e, a, dx, fs, rfl, vw_H ha, call_per (qs := [objP C ds]) (k := k) (kx := fun _ => False) S (fun j q v h1 h2 => ?_) rfl rfl hF (fun v g ω' H' hk S' p f => q v g Γ ω' H' hk S' p f) fun _ _ _ hx => hx.elim⟩
  match j, h1, h2 with
  | 0, h1, h2 =>
    cases h1
    cases h2
    exact hp
  | j + 1, h1, _ => simp at h1
end
end G

/-! ### len(set(xs)), xs a list of tuples of ints -/
namespace GSet
open PySem PySem.Spec PyProof.Rows L2
end GSet

namespace G
open PySem L2
section
variable {K : PySem.W.Frag} {P : Nat → Bool} {Γ : Ga} {D : Pe} {k : Gp → Ga → Prop} {ta tb te tl : TE} {tr : TA} {C : Addr} {n : Nat} {F : Fw} {E : XK}
theorem ties_keys {A : Hp} : ∀ {ts : List (Int × Int)} {vs : List V}, DRs A vs (ts.map tieD) → ∃ ks : List (Addr × List Int), vs = ks.map (fun p => V.ref p.1) ∧ ks.map (·.2) = ts.map (fun t => [t.1, t.2]) ∧ ∀ p ∈ ks, A p.1 = some (.tup (p.2.map V.int))
  | [], _, h => by cases h; exact ⟨[], rfl, rfl, by simp⟩
  | t :: ts, _, h => by
    cases h with | cons x y =>
    obtain ⟨_, a, rfl, ha⟩ := key_tie x
    obtain ⟨ks, rfl, e, hk⟩ := ties_keys y
    refine ⟨(a, [t.1, t.2]) :: ks, rfl, by simp [e], fun p hp => ?_⟩
    rcases List.mem_cons.mp hp with e | hp
    · rw [e]; exact ha
    · exact hk p hp
theorem nodup_len : ∀ (l D : List (List Int)), l.Nodup → (∀ x ∈ l, x ∈ D) → l.length ≤ D.length
  | [], D, _, _ => Nat.zero_le _
  | a :: l, D, h, hs => by
    have ha : a ∈ D := hs a (by simp)
    obtain ⟨h1, h2⟩ := List.nodup_cons.mp h
    have := nodup_len l (D.erase a) h2 fun x hx => (List.mem_erase_of_ne (fun (e : x = a) => h1 (e ▸ hx))).mpr (hs x (by simp [hx]))
    rw [List.length_erase_of_mem ha] at this
    have hp : 0 < D.length := List.length_pos_of_mem ha
    simp only [List.length_cons]
    omega
/-! ### slices of lists -/
def cutD {α : Type} (xs : List α) (lo hi : Option Int) : List α := (xs.drop (HT.sIx xs.length 0 lo)).take (HT.sIx xs.length xs.length hi - HT.sIx xs.length 0 lo)
def WO (to : TO) (Γ : Ga) (k : Option Int → Ga → Prop) : Prop := ∀ ω σ H, Sta Γ ω σ H → ∀ Q : Option Int → Hp → Prop, (∀ o Γ' ω' H', k o Γ' → Sta Γ' ω' σ H' → Fr ω ω' H H' → Q o H') → to σ H Q
theorem wo_none {ko : Option Int → Ga → Prop} (h : ko none Γ) : WO tNoPart Γ ko := fun ω σ H S Q f => f none Γ ω H h S Fr.refl
theorem wo_some {ko : Option Int → Ga → Prop} (h : WQ te Γ fun q Γ1 => ∃ i : Int, q = dP (.int i) ∧ ko (some i) Γ1) : WO (tPart te) Γ ko := fun ω σ H S Q f => h ω σ H S _ fun v q Γ1 ω1 H1 ⟨i, e, hk⟩ S1 p f1 => by
  subst e
  exact ⟨i, DR.int_inv p, f (some i) Γ1 ω1 H1 hk S1 f1⟩
theorem we_slice {tlo thi : TO} (h : WQ te Γ fun q Γ1 => ∃ ds, q = dP (.list ds) ∧ WO tlo Γ1 fun lo Γ2 => WO thi Γ2 fun hi Γ3 => k (own (cutD ds lo hi)) Γ3) : WE (tSl (rSlL K) te tlo thi) Γ k := fun ω σ H S Q f => h ω σ H S _ fun v q Γ1 ω1 H1 ⟨ds, e, h1⟩ S1 p f1 => by
  subst e
  obtain ⟨a, xs, rfl, ha, hd⟩ := DR.lst_inv p
  refine h1 ω1 σ H1 S1 _ fun lo Γ2 ω2 H2 h2 S2 f2 => h2 ω2 σ H2 S2 _ fun hi Γ3 ω3 H3 h3 S3 f3 => ?_
  have hA := (f2.trans f3).1 _ _ ha
  refine ⟨a, xs, rfl, SqL.of (vw_H hA), fun l hl => f _ _ Γ3 (paint ω3 l 2) _ h3 (S3.new 2 hl) ⟨l, _, rfl, paint_at, ?_⟩ ((f1.trans (f2.trans f3)).trans (paint_fr hl))⟩
  have e : cutV xs lo hi = (xs.drop (HT.sIx ds.length 0 lo)).take (HT.sIx ds.length ds.length hi - HT.sIx ds.length 0 lo) := by
    unfold cutV
    rw [hd.length]
  rw [e]
  exact (((hd.mono (f2.trans f3).1).drop _).take _).mono (paint_same hl 0)
/-! ### zip of two lists -/
theorem wi_zip {ki : Nat → (Nat → Per) → Ga → Prop} (h : WA tr Γ fun as Γ1 => ∃ xs ys, ArgD as [.list xs, .list ys] ∧ ki (min xs.length ys.length) (fun i => dP (.tuple [xs.getD i .none, ys.getD i .none])) Γ1) : WI (iZip K tr) Γ ki := fun ω σ H S R f => h ω σ H S _ fun vs as Γ1 ω1 H1 ⟨xs, ys, e, hk⟩ S1 a f1 => by
  have hdr := e.drs a
  cases hdr with | cons x y =>
  cases y with | cons z y =>
  cases y
  obtain ⟨p, us, rfl, hp, hu⟩ := x.lst_inv
  obtain ⟨q, ws, rfl, hq, hw⟩ := z.lst_inv
  refine ⟨p, q, us, ws, rfl, SqL.of (vw_H hp), SqL.of (vw_H hq), f (Itz K p q) _ _ Γ1 ω1 H1 hk S1 (fun i H' s => ?_) f1⟩
  have hp' : H' p = some (.lst us) := s _ _ hp
  have hq' : H' q = some (.lst ws) := s _ _ hq
  refine ⟨fun hi => ?_, fun hi => ⟨us, ws, SqL.of hp', SqL.of hq', ?_⟩⟩
  · have h1 : i < us.length := by rw [hu.length]; omega
    have h2 : i < ws.length := by rw [hw.length]; omega
    refine ⟨⟨us, ws, us[i], ws[i], SqL.of hp', SqL.of hq', by simp [h1], by simp [h2]⟩, fun x H'' y => .inr ?_⟩
    obtain ⟨T, u, w, rfl, hT, rfl, e1, e2⟩ := y
    have eu := e1 us (SqL.of hp')
    have ew := e2 ws (SqL.of hq')
    obtain ⟨d1, g1, r1⟩ := hu.get eu
    obtain ⟨d2, g2, r2⟩ := hw.get ew
    exact ⟨T, [u, w], _, hT, rfl, rfl, rfl, .cons (by rw [List.getD_eq_getElem?_getD, g1]; exact r1) (.cons (by rw [List.getD_eq_getElem?_getD, g2]; exact r2) .nil)⟩
  · rw [hu.length, hw.length]
    omega
/-! ### C(..) -/
def qsOf : List Arg → List Per
  | [] => []
  | .q q :: as => q :: qsOf as
  | .s _ :: as => qsOf as
end
end G

namespace G
open PySem L2
/-! ### statements that may raise: Ex is the def's own wish, kx what is to hold where one of its own is raised -/
def XM (P : Nat → Bool) (Ex : XK) (kx : Value → Ga → Prop) (ω : Col) (σ : L2.St) (H : Hp) : Prop := ∀ c Γ' ω' σ' H', kx c Γ' → Sta Γ' ω' σ' H' → Fr ω ω' H H' → Pin P σ σ' → Ex c none H'
theorem XM.after {P : Nat → Bool} {Ex : XK} {kx : Value → Ga → Prop} {ω ω1 : Col} {σ σ1 : L2.St} {H H1 : Hp} (m : XM P Ex kx ω σ H) (f : Fr ω ω1 H H1) (p : Pin P σ σ1) : XM P Ex kx ω1 σ1 H1 :=
  fun c Γ' ω' σ' H' h S g q => m c Γ' ω' σ' H' h S (f.trans g) (p.trans q)
def WSX (P : Nat → Bool) (t : TS) (Ex : XK) (Γ : Ga) (D : Pe) (kx : Value → Ga → Prop) : Prop := ∀ ω σ H, Sta Γ ω σ H → XM P Ex kx ω σ H → ∀ E : Ends, Met P D ω σ H E → t E σ H
section
variable {K : PySem.W.Frag} {P : Nat → Bool} {Γ : Ga} {D : Pe} {Ex : XK} {kx : Value → Ga → Prop} {c : TT} {t u : TS} {ta : TA} {n : Nat} {F : Fw} {g : TG} {k : Gp → Ga → Prop}
theorem wsx_of (h : WS P t Γ D) : WSX P t Ex Γ D kx := fun ω σ H S _ E m => h ω σ H S E m
/-- the promise of a def that may raise -/
theorem body_okX (P : Nat → Bool) {t : TS} {N : List Str} {vs : List V} {H : Hp} {Q : VK} {E : XK}
    (h : ∀ gs kk xx, F gs kk xx → gs.length = n → WSX P t E (gs.map some ++ List.replicate (N.length - n) none) ⟨fun Γ => ∃ Γp, Les (mask P n Γ) Γp ∧ kk (dat .none) Γp, fun g Γ => ∃ g' Γp, Ent g g' ∧ Les (mask P n Γ) Γp ∧ kk g' Γp, fun _ => False, fun _ => False⟩
      fun cl Γ => ∃ Γp, Les (mask P n Γ) Γp ∧ xx cl Γp) (hs : SpG n F vs H Q E) :
    t { nx := fun _ H' => Q .non H', rt := Q } (start N vs) H := by
  obtain ⟨gs, kk, xx, ω, hn, hF, hp, hq, hx⟩ := hs
  have S := par_sta (N := N) hp
  rw [hn] at S
  have stv : ∀ (i : Nat) (v : V), vs[i]? = some v → (start N vs)[i]? = some (some v) := fun i v e => by
    have hi := (List.getElem?_eq_some_iff.mp e).1
    unfold L2.start
    rw [List.getElem?_append_left (by simpa using hi), List.getElem?_map, e]
    rfl
  have en : ∀ (Γ' : Ga) (ω' : Col) (σ' : L2.St) (H' : Hp), Sta Γ' ω' σ' H' → Pin P (start N vs) σ' → EndOk (mask P n Γ') ω' H' vs := fun Γ' ω' σ' H' S' pi i g v hg hv => by
    obtain ⟨_, hP, hg⟩ := mask_get hg
    obtain ⟨v', e, p⟩ := S'.2 i g hg
    rw [pi.2 i hP, stv i v hv] at e
    cases e
    exact p
  refine h gs kk xx hF (by rw [hp.1, hn]) ω _ H S (fun cl Γ' ω' σ' H' ⟨Γp, l, hk⟩ S' f pi => hx cl Γp ω' H' hk ((en Γ' ω' σ' H' S' pi).les l) f) _ ⟨fun Γ' ω' σ' H' ⟨Γp, l, hk⟩ S' f pi => ?_, fun v g Γ' ω' σ' H' ⟨g', Γp, eg, l, hk⟩ S' p f pi => ?_, fun _ _ _ _ hk => hk.elim, fun _ _ _ _ hk => hk.elim⟩
  · exact hq .non _ _ ω' H' hk ((en Γ' ω' σ' H' S' pi).les l) DR.non f
  · exact hq v g' _ ω' H' hk ((en Γ' ω' σ' H' S' pi).les l) (eg _ _ _ p) f
/-! ### try: f(..) except C: .. -/
end
end G

namespace G
open PySem L2
/-! ### a list of one's own, of lists of one's own -/
def In2 (A R : Hp) (bs : List Addr) (dss : List (List PyData)) : Prop := bs.length = dss.length ∧ ∀ (i : Nat) (b : Addr) (ds : List PyData), bs[i]? = some b → dss[i]? = some ds → ∃ ys, R b = some (.lst ys) ∧ DRs A ys ds
theorem In2.mono {A A' R R' : Hp} {bs : List Addr} {dss : List (List PyData)} (s : Same A A') (r : Same R R') (h : In2 A R bs dss) : In2 A' R' bs dss := ⟨h.1, fun i b ds e1 e2 => by
  obtain ⟨ys, h1, h2⟩ := h.2 i b ds e1 e2
  exact ⟨ys, r _ _ h1, h2.mono s⟩⟩
def own2 (dss : List (List PyData)) : Gp := ⟨fun A v R => ∃ a bs, v = .ref a ∧ R a = some (.lst (bs.map V.ref)) ∧ (a :: bs).Nodup ∧ In2 A R bs dss, fun s r q => by
  obtain ⟨a, bs, e, h, n, t⟩ := q
  exact ⟨a, bs, e, r _ _ h, n, t.mono s r⟩⟩
theorem frz_own2 {dss : List (List PyData)} : Frz (own2 dss) (dP (.list (dss.map PyData.list))) := fun A v R A' s r q => by
  obtain ⟨a, bs, e, h, n, t⟩ := q
  subst e
  refine DR.lst (r _ _ h) ?_
  have key : ∀ (bs : List Addr) (dss : List (List PyData)), In2 A R bs dss → DRs A' (bs.map V.ref) (dss.map PyData.list) := fun bs => by
    induction bs with
    | nil => intro dss z; cases dss with
      | nil => exact .nil
      | cons d dss => cases z.1
    | cons b bs ih => intro dss z; cases dss with
      | nil => cases z.1
      | cons d dss =>
        obtain ⟨ys, h1, h2⟩ := z.2 0 b d rfl rfl
        exact .cons (.lst (r _ _ h1) (h2.mono s)) (ih dss ⟨Nat.succ.inj z.1, fun i b' d' e1 e2 => z.2 (i + 1) b' d' (by simpa using e1) (by simpa using e2)⟩)
  exact key bs dss t
section
variable {K : PySem.W.Frag} {P : Nat → Bool} {Γ : Ga} {D : Pe} {k : Gp → Ga → Prop} {te : TE} {g : TG}
end
end G

namespace G
open PySem L2
section
variable {K : PySem.W.Frag} {Γ : Ga} {k : Gp → Ga → Prop} {ta tb tc : TE} {r r' : R2}
theorem we_chain (h : WQ ta Γ fun q Γ1 => ∃ d, q = dP d ∧ WQ tb Γ1 fun q2 Γ2 => ∃ d2 b, q2 = dP d2 ∧ OpD r d d2 (dP (.bool b)) ∧ if b = true then WQ tc Γ2 fun q3 Γ3 => ∃ d3 b3, q3 = dP d3 ∧ OpD r' d2 d3 (dP (.bool b3)) ∧ k (dat (.bool b3)) Γ3 else k (dat (.bool false)) Γ2) :
    WE (tChain r r' ta tb tc) Γ k := fun ω σ H S Q f => h ω σ H S _ fun v q Γ1 ω1 H1 ⟨d, e, h1⟩ S1 p f1 => by
  subst e
  refine h1 ω1 σ H1 S1 _ fun v2 q2 Γ2 ω2 H2 ⟨d2, b, e2, ho, hk⟩ S2 p2 f2 => ?_
  subst e2
  refine ho (vw ω2 H2 0) H2 v v2 (fun _ _ z => vw_H z) (DR.mono f2.1 d p) p2 _ fun z hz => ?_
  cases DR.bl_inv hz
  refine ⟨b, rfl, ?_⟩
  cases b with
  | false => exact iteF (f _ _ Γ2 ω2 H2 hk S2 (DR.bl false) (f1.trans f2))
  | true =>
    refine iteT ((show WQ tc Γ2 _ from hk) ω2 σ H2 S2 _ fun v3 q3 Γ3 ω3 H3 ⟨d3, b3, e3, ho3, hk3⟩ S3 p3 f3 => ?_)
    subst e3
    refine ho3 (vw ω3 H3 0) H3 v2 v3 (fun _ _ z => vw_H z) (DR.mono f3.1 d2 p2) p3 _ fun z hz => ?_
    cases DR.bl_inv hz
    exact f _ _ Γ3 ω3 H3 hk3 S3 (DR.bl b3) ((f1.trans f2).trans f3)
end
theorem kb_i2 : kitB "int" "bool" = some false := by decide +kernel
theorem kb_s2 : kitB "str" "bool" = some false := by decide +kernel
theorem kb_l2 : kitB "list" "bool" = some false := by decide +kernel
theorem kb_t2 : kitB "tuple" "bool" = some false := by decide +kernel
theorem kb_db : kitB "dict" "bool" = some false := by decide +kernel
theorem isi_bool : ∀ {d : PyData}, (tyD d).isSome = true → ∃ n, tyD d = some n ∧ kitB n "bool" = some (isBl d)
  | .none, _ => ⟨_, rfl, by decide +kernel⟩
  | .bool _, _ => ⟨_, rfl, kb_bb⟩
  | .int _, _ => ⟨_, rfl, kb_i2⟩
  | .str _, _ => ⟨_, rfl, kb_s2⟩
  | .list _, _ => ⟨_, rfl, kb_l2⟩
  | .tuple _, _ => ⟨_, rfl, kb_t2⟩
  | .dict _, _ => ⟨_, rfl, kb_db⟩
theorem we_isBl {K : PySem.W.Frag} {Γ : Ga} {k : Gp → Ga → Prop} {ta : TE} (h : WQ ta Γ fun q Γ1 => ∃ d, q = dP d ∧ k (dat (.bool (isBl d))) Γ1) : WE (tCB (rIsiA K) (tCons ta (tCons (tC (.ty "bool")) tNil))) Γ k := fun ω σ H S Q f => h ω σ H S _ fun v q Γ1 ω1 H1 ⟨d, e, hk⟩ S1 p f1 => by
  subst e
  obtain ⟨n, e1, e2⟩ := isi_bool (DR.ty p)
  exact ⟨v, .ty "bool", .type n, .type "bool", _, rfl, .ty "bool", tyD_ok (DR.mono (fun _ _ z => vw_H z) d p) e1, kit_ty e2, f _ _ Γ1 ω1 H1 hk S1 (DR.bl _) f1⟩


section
variable {K : PySem.W.Frag} {Γ : Ga} {k : Gp → Ga → Prop} {r : R2} {d e : PyData}
theorem all_map {α : Type} {p : α → Bool} {xs : List α} : (xs.map p).all id = xs.all p := by
  induction xs with
  | nil => rfl
  | cons x xs ih => simp only [List.map_cons, List.all_cons, ih, id]
theorem take_map {α : Type} {f : α → PyData} {xs : List α} {i : Nat} {x : α} (h : xs[i]? = some x) : (xs.take (i + 1)).map f = (xs.take i).map f ++ [f x] := by
  rw [List.take_succ, h, List.map_append]
  rfl
/-- [f(x) for x in xs], the i-th turn -/
theorem getD_of {α : Type} {xs : List α} {i : Nat} (h : i < xs.length) : ∃ x, xs[i]? = some x := ⟨xs[i], by simp [h]⟩
theorem ck_allM {K : PySem.W.Frag} {α : Type} {xs : List α} {p : α → Bool} (hk : k (dat (.bool (xs.all p))) Γ) : CbK (rAllA K) [.list (xs.map fun x => .bool (p x))] k Γ := by
  have := ck_all (K := K) (bs := xs.map p) (k := k) (Γ := Γ) (by rw [all_map]; exact hk)
  rw [List.map_map] at this
  exact this
theorem getD_at {xs : List PyData} {i : Nat} {x d : PyData} (h : xs[i]? = some x) : xs.getD i d = x := by rw [List.getD_eq_getElem?_getD, h]; rfl
theorem cut1 {α : Type} {xs : List α} : cutD xs (some 1) none = xs.drop 1 := by
  unfold cutD
  cases xs with
  | nil => rfl
  | cons x xs =>
    have e1 : HT.sIx (x :: xs).length 0 (some 1) = 1 := by
      unfold HT.sIx
      simp
    have e2 : HT.sIx (x :: xs).length (x :: xs).length none = (x :: xs).length := rfl
    rw [e1, e2]
    exact List.take_of_length_le (by simp)
end
end G

namespace G
open PySem L2
section
variable {K : PySem.W.Frag} {P : Nat → Bool} {Γ : Ga} {D : Pe} {t : TS}
/-- from here on a slot's own stands still -/
theorem ws_frz {i : Nat} {g : Gp} {q : Per} (h : Γ[i]? = some (some g)) (z : Frz g q) (c : WS P t (Γ.set i (some (per q))) D) : WS P t Γ D := fun ω σ H S E m => by
  obtain ⟨v, e, p⟩ := S.2 i _ h
  have pq : q.q (vw (shut ω (i + 3)) H 0) v := z _ _ _ _ shut_0 shut_c p
  refine c (shut ω (i + 3)) σ H ⟨by rw [List.length_set]; exact S.1, fun j g' hj => ?_⟩ E (m.after ⟨shut_0, shut_ne (by omega)⟩ Pin.refl)
  rw [set_eq] at hj
  by_cases hij : i = j
  · rw [if_pos hij] at hj
    split at hj
    · cases hj
      subst hij
      exact ⟨v, e, pq⟩
    · cases hj
  · rw [if_neg hij] at hj
    obtain ⟨w, e', p'⟩ := S.2 j _ hj
    exact ⟨w, e', g'.mono shut_0 (shut_ne (by omega)) p'⟩
/-- x is not None -/
theorem we_notN {ta : TE} {k : Gp → Ga → Prop} (h : WE ta Γ fun g Γ1 => g = dat .none ∧ k (dat (.bool false)) Γ1) : WE (tOp rNotN0 ta (tC .non)) Γ k := fun ω σ H S Q f => h ω σ H S _ fun v g Γ1 ω1 H1 ⟨e, hk⟩ S1 p f1 => by
  subst e
  cases DR.non_inv p
  exact ⟨rfl, f _ _ Γ1 ω1 H1 hk S1 (DR.bl false) f1⟩
end
end G

/-! ### == by an own __eq__, and the default != over it -/
namespace GCmp
open PySem PySem.W PySem.Spec PyProof.Rows
section
variable {prog : Program} {w : World} {A : Around} {E : Value → Shared → Prop} {s : Shared} {K : Frag} {x C L f : Addr} {h₀ : Heap} {m : Str → Option Value} {ox : Obj} {od : Option Obj} {b tb : Value}
end
end GCmp

namespace G
open PySem L2
/-! ### own == and the default != as operations -/
section
variable {X : Cx} {C f : Addr} {fd : FuncData} {ps : List Str} {sp : Sp} {E : XK} {CX : CXT} {n : Nat}
end
section
variable {K : PySem.W.Frag} {P : Nat → Bool} {Γ : Ga} {D : Pe} {k : Gp → Ga → Prop} {ta tb te : TE} {C : Addr} {F : Fw} {E : XK} {ne : Bool}
/-! ### is, is not, of bools -/
theorem ok_isB {a b : Bool} (hk : k (dat (.bool (decide (a = b)))) Γ) : OpK rIsB (.bool a) (.bool b) k Γ := ok_of (q := dP (.bool (decide (a = b)))) (fun A H v w _ hv hw Q g => by
  cases hv.bl_inv
  cases hw.bl_inv
  exact ⟨a, b, rfl, rfl, g _ (DR.bl _)⟩) hk
theorem ok_notB {a b : Bool} (hk : k (dat (.bool (!decide (a = b)))) Γ) : OpK rNotB (.bool a) (.bool b) k Γ := ok_of (q := dP (.bool (!decide (a = b)))) (fun A H v w _ hv hw Q g => by
  cases hv.bl_inv
  cases hw.bl_inv
  exact ⟨a, b, rfl, rfl, g _ (DR.bl _)⟩) hk
/-! ### isinstance of an own class -/
end
/-! ### facts of a class, as a Bool -/
end G

namespace G
open PySem L2
/-! ### a list of things that stand still, of any kind -/
def PRs (A : Hp) (xs : List V) (qs : List Per) : Prop := xs.length = qs.length ∧ ∀ (i : Nat) (x : V) (q : Per), xs[i]? = some x → qs[i]? = some q → q.q A x
theorem PRs.nil {A : Hp} : PRs A [] [] := ⟨rfl, fun i x q h _ => by simp at h⟩
theorem PRs.mono {A A' : Hp} {xs : List V} {qs : List Per} (s : Same A A') (h : PRs A xs qs) : PRs A' xs qs := ⟨h.1, fun i x q a b => q.mono s (h.2 i x q a b)⟩
theorem PRs.length {A : Hp} {xs : List V} {qs : List Per} (h : PRs A xs qs) : xs.length = qs.length := h.1
theorem PRs.snoc {A : Hp} {xs : List V} {qs : List Per} {x : V} {q : Per} (h : PRs A xs qs) (p : q.q A x) : PRs A (xs ++ [x]) (qs ++ [q]) := by
  refine ⟨by simp [h.1], fun i y r a b => ?_⟩
  by_cases hi : i < xs.length
  · rw [List.getElem?_append_left hi] at a
    rw [List.getElem?_append_left (by rw [← h.1]; exact hi)] at b
    exact h.2 i y r a b
  · rw [List.getElem?_append_right (by omega)] at a
    rw [List.getElem?_append_right (by rw [← h.1]; omega), ← h.1] at b
    match e : i - xs.length, a, b with
    | 0, a, b =>
      cases a
      cases b
      exact p
    | n + 1, a, _ => simp at a
section
variable {K : PySem.W.Frag} {P : Nat → Bool} {Γ : Ga} {D : Pe} {k : Gp → Ga → Prop} {kt : Bool → Ga → Prop} {kg : Ga → Prop} {te tl : TE} {tt : TT} {t u tb : TS} {ta : TA} {g : TG}
end
/-! ### rows of ints; slices -/
def rowI (ns : List Int) : PyData := .list (ns.map .int)
theorem lay_rowsI {ls : List (List Int)} : Lay 2 (.list (ls.map rowI)) := lay_list fun d hd => by
  obtain ⟨l, _, rfl⟩ := List.mem_map.mp hd
  exact lay_ints
/-! ### more of slices -/
theorem argD5 {a b c d e : PyData} : ArgD [.q (dP a), .q (dP b), .q (dP c), .q (dP d), .q (dP e)] [a, b, c, d, e] := ⟨rfl, rfl, rfl, rfl, rfl, trivial⟩
theorem argD6 {a b c d e f : PyData} : ArgD [.q (dP a), .q (dP b), .q (dP c), .q (dP d), .q (dP e), .q (dP f)] [a, b, c, d, e, f] := ⟨rfl, rfl, rfl, rfl, rfl, rfl, trivial⟩
theorem argD7 {a b c d e f g : PyData} : ArgD [.q (dP a), .q (dP b), .q (dP c), .q (dP d), .q (dP e), .q (dP f), .q (dP g)] [a, b, c, d, e, f, g] := ⟨rfl, rfl, rfl, rfl, rfl, rfl, rfl, trivial⟩
theorem argD9 {a b c d e f g h i : PyData} : ArgD [.q (dP a), .q (dP b), .q (dP c), .q (dP d), .q (dP e), .q (dP f), .q (dP g), .q (dP h), .q (dP i)] [a, b, c, d, e, f, g, h, i] := ⟨rfl, rfl, rfl, rfl, rfl, rfl, rfl, rfl, rfl, trivial⟩
end G

/-! ### promises kept where no repr is under way (guards: none) -/
namespace G
open PySem PySem.Spec PyProof.Rows L2
section
variable {P : Program} {w : World} {K : PySem.W.Frag} {mg : Str → Option Value} {base : Heap} {x qual : Str} {params : Arguments} {body : List Stmt} {scope : Scope} {dvs : List V} {kws : List (Str × V)} {f : Addr} {fd : FuncData}
end
section
variable {X : Cx} {CX : CXT} {k : Nat} {f : Addr} {fd : FuncData} {ps : List Str} {sp : Sp} {E : XK} {ds : List Value} {dvs : List V} {x : Str} {p pos : Pos} {e : Expr} {es : List Expr} {t : TA}
end
end G

/-! ### repr of data -/
namespace G
open PySem PySem.Spec PyProof.Rows L2
section
variable {X : Cx} {pins : List (Addr × Obj)} {σ : L2.St} {H : Hp} {s : Shared}
/-- what may be shown -/
structure Shw (d : PyData) : Prop where
  ok : d.showable = true
  dp : d.depth ≤ 20
  few : d.shown.length ≤ sizeLine
def rReprD : List V → Hp → VK → Prop := fun xs H Q => ∃ x d, xs = [x] ∧ DR H x d ∧ Shw d ∧ Q (.str d.shown) H
end
end G

namespace G
open PySem PySem.Spec PyProof.Rows L2
/-! ### data whose text is short -/
structure Tin (p b : Nat) (d : PyData) : Prop where
  ls : d.leavesShort 41 = true
  sh : d.showable = true
  dp : d.depth ≤ p
  bk : d.bulk ≤ b
theorem Tin.up {p b p' b' : Nat} {d : PyData} (h : Tin p b d) (hp : p ≤ p') (hb : b ≤ b') : Tin p' b' d := ⟨h.ls, h.sh, Nat.le_trans h.dp hp, Nat.le_trans h.bk hb⟩
section
variable {K : PySem.W.Frag} {Γ : Ga} {k : Gp → Ga → Prop} {ta : TE}
theorem we_repr (h : WQ ta Γ fun q Γ1 => ∃ d, q = dP d ∧ Shw d ∧ k (dat (.str d.shown)) Γ1) : WE (tCB rReprD (tCons ta tNil)) Γ k := fun ω σ H S Q f => h ω σ H S _ fun v q Γ1 ω1 H1 ⟨d, e, hs, hk⟩ S1 p f1 => by
  subst e
  exact ⟨v, d, rfl, DR.mono (fun _ _ z => vw_H z) d p, hs, f _ _ Γ1 ω1 H1 hk S1 (DR.str _) f1⟩
theorem ok_eqR {a b : Str} (hk : k (dat (.bool (decide (a = b)))) Γ) : OpK rEq (.str a) (.str b) k Γ := ok_of (q := dP (.bool (decide (a = b)))) (fun A H v w _ hv hw Q g => by
  cases hv.str_inv
  cases hw.str_inv
  refine ⟨rfl, ?_⟩
  have e : decide (V.str a = V.str b) = decide (a = b) := decide_eq_decide.mpr ⟨fun z => V.str.inj z, fun z => congrArg V.str z⟩
  rw [e]
  exact g _ (DR.bl _)) hk
theorem ok_neR {a b : Str} (hk : k (dat (.bool (!decide (a = b)))) Γ) : OpK rNe (.str a) (.str b) k Γ := ok_of (q := dP (.bool (!decide (a = b)))) (fun A H v w _ hv hw Q g => by
  cases hv.str_inv
  cases hw.str_inv
  refine ⟨rfl, ?_⟩
  have e : decide (V.str a = V.str b) = decide (a = b) := decide_eq_decide.mpr ⟨fun z => V.str.inj z, fun z => congrArg V.str z⟩
  rw [e]
  exact g _ (DR.bl _)) hk
end
end G

/-! ### try: .. except C as e: m = e : the error is kept, and asked later -/
namespace G
open PySem PySem.Spec PyProof.Rows L2
section
variable {X : Cx} {pins : List (Addr × Obj)} {σ : L2.St} {H : Hp} {s : Shared}
end
section
variable {X : Cx} {x n m : Str} {c : Value} {i j : Nat} {body : List Stmt} {b₀ : Stmt} {suite : List Stmt} {np pos pos' : Pos} {tb : WX → TS}
end
end G

namespace G
open PySem PySem.Spec PyProof.Rows L2
/-! ### C(..) and o.m(..) where what is raised is wished for at the slots -/
section
variable {X : Cx} {CX : CXT} {k : Nat} {f C : Addr} {fd : FuncData} {ps : List Str} {sp : Sp} {E : L2.St → XK} {x m : Str} {p pos apos : Pos} {e o : Expr} {es : List Expr} {ta : TE} {t : TA}
end
/-! ### the body of a try: W what is wished of its errors -/
section
variable {K : PySem.W.Frag} {P : Nat → Bool} {Γ : Ga} {D : Pe} {k : Gp → Ga → Prop} {te tl : TE} {c : TT} {t u : TS} {tb : WX → TS} {ta : TA} {n : Nat} {F : Fw} {kx : Value → Ga → Prop} {C : Addr} {m : Str}
theorem args_q {σ : L2.St} {A : Hp} : ∀ {as : List Arg} {vs : List V}, slots as = [] → ArgsOk σ A as vs → (qsOf as).length = vs.length ∧ as.length = vs.length ∧ ∀ (j : Nat) (q : Per) (v : V), (qsOf as)[j]? = some q → vs[j]? = some v → q.q A v
  | [], _, _, h => by cases h; exact ⟨rfl, rfl, fun j q v e => by simp [qsOf] at e⟩
  | .s i :: as, _, hs, _ => by cases hs
  | .q q :: as, _, hs, h => by
    cases h with | cons y z =>
    obtain ⟨l1, l2, l3⟩ := args_q (as := as) hs z
    refine ⟨by simp [qsOf, l1], by simp [l2], fun j q' v e1 e2 => ?_⟩
    match j, e1, e2 with
    | 0, e1, e2 =>
      cases e1
      cases e2
      exact y
    | j + 1, e1, e2 => exact l3 j q' v (by simpa [qsOf] using e1) (by simpa using e2)
end
end G

/-! ### tuple(xs), {}, repr, and == of strings -/
namespace G
open PySem PySem.Spec PyProof.Rows L2
section
variable {K : PySem.W.Frag} {Γ : Ga} {k : Gp → Ga → Prop} {tr : TR}
def rTupOf (K : PySem.W.Frag) : List V → Hp → VK → Prop := fun xs H Q => ∃ p ys, xs = [.ref p] ∧ ((SqL K H p ys ∧ ∀ l, H l = none → Q (.ref l) (upd H l (.tup ys))) ∨ (SqT K H p ys ∧ Q (.ref p) H))
theorem ck_tuple {ds : List PyData} (hk : k (dat (.tuple ds)) Γ) : CbK (rTupOf K) [.list ds] k Γ := fun ω σ H vs S h Q f => by
  cases h with | cons x y =>
  cases y
  obtain ⟨a, xs, rfl, ha, hd⟩ := x.lst_inv
  exact ⟨a, xs, rfl, .inl ⟨SqL.of (vw_H ha), fun l hl => f (.ref l) (dat (.tuple ds)) Γ (paint ω l 0) _ hk (S.new 0 hl) (DR.tup paint_at (hd.mono (paint_same hl 0))) (paint_fr hl)⟩⟩
theorem argD8 {a b c d e f g h : PyData} : ArgD [.q (dP a), .q (dP b), .q (dP c), .q (dP d), .q (dP e), .q (dP f), .q (dP g), .q (dP h)] [a, b, c, d, e, f, g, h] := ⟨rfl, rfl, rfl, rfl, rfl, rfl, rfl, rfl, trivial⟩
theorem argD10 {a b c d e f g h i j : PyData} : ArgD [.q (dP a), .q (dP b), .q (dP c), .q (dP d), .q (dP e), .q (dP f), .q (dP g), .q (dP h), .q (dP i), .q (dP j)] [a, b, c, d, e, f, g, h, i, j] := ⟨rfl, rfl, rfl, rfl, rfl, rfl, rfl, rfl, rfl, rfl, trivial⟩
theorem we_dnew (h : k (dat (.dict [])) Γ) : WE tDNewK Γ k := fun ω σ H S Q f p hp =>
  f (.ref p) (dat (.dict [])) Γ (paint ω p 0) _ h (S.new 0 hp) (DR.dic (ps := []) paint_at) (paint_fr hp)
end
end G

/-! ### isinstance of an error that was caught and kept -/
namespace G
open PySem PySem.Spec PyProof.Rows L2
section
variable {X : Cx}
end
section
variable {K : PySem.W.Frag} {Γ : Ga} {k : Gp → Ga → Prop}
end
/-! ### the facts as a Bool -/
end G

namespace G
open PySem PySem.Spec PyProof.Rows L2
def top (i : Nat) : Stmt := PySem.Challenge.pw_ownhues_k74_lists_written_and_read.main.body.getD i (.Pass ⟨0, 0, 0, 0⟩)
abbrev s_is_count : Stmt := top 4
abbrev s_are_counts : Stmt := top 5
abbrev s_are_ascending_counts : Stmt := top 6
abbrev s_is_integer_word : Stmt := top 9
abbrev s_integers_of : Stmt := top 10
abbrev s_hues_of_word : Stmt := top 11
abbrev s_word_of_hues : Stmt := top 12
abbrev s_show_lists : Stmt := top 14
abbrev s_read_lists : Stmt := top 15
abbrev s_law_urn : Stmt := top 17
abbrev s_law_pick : Stmt := top 18
abbrev s_law_whole : Stmt := top 19
abbrev s_law_wholes : Stmt := top 20
abbrev s_law_copies : Stmt := top 21
abbrev s_law_hue : Stmt := top 22
abbrev s_law_written : Stmt := top 23
abbrev s_law_right : Stmt := top 24
abbrev s_law : Stmt := top 25
def d_is_count : He.DefD := ⟨("is_count", none), "is_count", "is_count", defArgs s_is_count, defBody s_is_count, defScope s_is_count, [], []⟩
def d_are_counts : He.DefD := ⟨("are_counts", none), "are_counts", "are_counts", defArgs s_are_counts, defBody s_are_counts, defScope s_are_counts, [], []⟩
def d_are_ascending_counts : He.DefD := ⟨("are_ascending_counts", none), "are_ascending_counts", "are_ascending_counts", defArgs s_are_ascending_counts, defBody s_are_ascending_counts, defScope s_are_ascending_counts, [], []⟩
def d_is_integer_word : He.DefD := ⟨("is_integer_word", none), "is_integer_word", "is_integer_word", defArgs s_is_integer_word, defBody s_is_integer_word, defScope s_is_integer_word, [], []⟩
def d_integers_of : He.DefD := ⟨("integers_of", none), "integers_of", "integers_of", defArgs s_integers_of, defBody s_integers_of, defScope s_integers_of, [], []⟩
def d_hues_of_word : He.DefD := ⟨("hues_of_word", none), "hues_of_word", "hues_of_word", defArgs s_hues_of_word, defBody s_hues_of_word, defScope s_hues_of_word, [], []⟩
def d_word_of_hues : He.DefD := ⟨("word_of_hues", none), "word_of_hues", "word_of_hues", defArgs s_word_of_hues, defBody s_word_of_hues, defScope s_word_of_hues, [], []⟩
def d_show_lists : He.DefD := ⟨("show_lists", none), "show_lists", "show_lists", defArgs s_show_lists, defBody s_show_lists, defScope s_show_lists, [], []⟩
def d_read_lists : He.DefD := ⟨("read_lists", none), "read_lists", "read_lists", defArgs s_read_lists, defBody s_read_lists, defScope s_read_lists, [], []⟩
def d_law_urn : He.DefD := ⟨("_law_urn", none), "_law_urn", "_law_urn", defArgs s_law_urn, defBody s_law_urn, defScope s_law_urn, [], []⟩
def d_law_pick : He.DefD := ⟨("_law_pick", none), "_law_pick", "_law_pick", defArgs s_law_pick, defBody s_law_pick, defScope s_law_pick, [], []⟩
def d_law_whole : He.DefD := ⟨("_law_whole", none), "_law_whole", "_law_whole", defArgs s_law_whole, defBody s_law_whole, defScope s_law_whole, [], []⟩
def d_law_wholes : He.DefD := ⟨("_law_wholes", none), "_law_wholes", "_law_wholes", defArgs s_law_wholes, defBody s_law_wholes, defScope s_law_wholes, [], []⟩
def d_law_copies : He.DefD := ⟨("_law_copies", none), "_law_copies", "_law_copies", defArgs s_law_copies, defBody s_law_copies, defScope s_law_copies, [], []⟩
def d_law_hue : He.DefD := ⟨("_law_hue", none), "_law_hue", "_law_hue", defArgs s_law_hue, defBody s_law_hue, defScope s_law_hue, [], []⟩
def d_law_written : He.DefD := ⟨("_law_written", none), "_law_written", "_law_written", defArgs s_law_written, defBody s_law_written, defScope s_law_written, [], []⟩
def d_law_right : He.DefD := ⟨("_law_right", none), "_law_right", "_law_right", defArgs s_law_right, defBody s_law_right, defScope s_law_right, [], []⟩
def d_law : He.DefD := ⟨("law", none), "law", "law", defArgs s_law, defBody s_law, defScope s_law, [], []⟩
def fn : List He.DefD := [d_is_count, d_are_counts, d_are_ascending_counts, d_is_integer_word, d_integers_of, d_hues_of_word, d_word_of_hues, d_show_lists, d_read_lists, d_law_urn, d_law_pick, d_law_whole, d_law_wholes, d_law_copies, d_law_hue, d_law_written, d_law_right, d_law]
def pr : List PrD := []
def fa : List He.Fa := [.glo "is_count", .glo "are_counts", .glo "are_ascending_counts", .glo "is_integer_word", .glo "integers_of", .glo "hues_of_word", .glo "word_of_hues", .glo "show_lists", .glo "read_lists", .glo "_law_urn", .glo "_law_pick", .glo "_law_whole", .glo "_law_wholes", .glo "_law_copies", .glo "_law_hue", .glo "_law_written", .glo "_law_right", .glo "law", .glo "InvalidText", .exc "InvalidText", .int "MOST_DIGITS" 30, .free "all", .free "bool", .free "int", .free "isinstance", .free "len", .free "list", .free "max", .free "min", .free "range", .free "sorted", .free "str", .free "zip"]
def xf (K : PySem.W.Frag) : Bool := true
def loose : List PySem.Str := (["__name__", "HueError", "InvalidText", "is_count", "are_counts", "are_ascending_counts", "MOST_DIGITS", "is_integer_word", "integers_of", "hues_of_word", "word_of_hues", "show_lists", "read_lists", "_law_urn", "_law_pick", "_law_whole", "_law_wholes", "_law_copies", "_law_hue", "_law_written", "_law_right"] : List PySem.Str)
abbrev R : PySem.W.OpenRow := PySem.W.OpenLaw.row PySem.Challenge.rw_ownhues_k74_lists_written_and_read
abbrev hk : PySem.W.Hook := hookP xf 6 fa fn pr
def ob (s : PySem.W.SharedT) : AlP := obsPG xf 6 fa fn pr (HandSHeadRun.getT s)
theorem ob_eq (s : PySem.W.SharedT) : ob s = hk.obs s.abs := obsPG_eq (HandSHeadRun.getT_eq s)
theorem run (w : World) : HandSHeadRun.RunEq R (PySem.W.view R.prog [25]) hk ob 9000 loose w := by
  intro os
  kernel_rfl

end G

namespace G
open PySem
/-! ### a text of words, cut again -/
theorem cut_uniq {c : Nat} : ∀ {a b r s : List Nat}, c ∉ a → c ∉ b → a ++ c :: r = b ++ c :: s → a = b ∧ r = s
  | [], [], r, s, _, _, h => by
    injection h with _ h
    exact ⟨rfl, h⟩
  | [], y :: b, r, s, _, hb, h => by
    injection h with h1 _
    exact absurd (by simp [h1]) hb
  | x :: a, [], r, s, ha, _, h => by
    injection h with h1 _
    exact absurd (by simp [h1]) ha
  | x :: a, y :: b, r, s, ha, hb, h => by
    injection h with h1 h2
    obtain ⟨e1, e2⟩ := cut_uniq (a := a) (b := b) (fun h => ha (by simp [h])) (fun h => hb (by simp [h])) h2
    exact ⟨by rw [h1, e1], e2⟩
def sepS (c : Nat) : Str := ⟨#[c]⟩
theorem app_cps (a b : Str) : (a ++ b).cps.toList = a.cps.toList ++ b.cps.toList := by
  show (a.cps ++ b.cps).toList = _
  simp
theorem str_ext {a b : Str} (h : a.cps.toList = b.cps.toList) : a = b := by
  obtain ⟨a⟩ := a
  obtain ⟨b⟩ := b
  exact congrArg Str.mk (Array.toList_inj.mp h)
theorem join_two {c : Nat} {x y : Str} {r : List Str} : (Str.join (sepS c) (x :: y :: r)).cps.toList = x.cps.toList ++ c :: (Str.join (sepS c) (y :: r)).cps.toList := by
  rw [PyProof.Rows.join_cons_cons, app_cps, app_cps]
  show (x.cps.toList ++ [c]) ++ _ = _
  simp
theorem join_uniq {c : Nat} : ∀ {xs ys : List Str}, xs ≠ [] → ys ≠ [] → (∀ x ∈ xs, c ∉ x.cps.toList) → (∀ y ∈ ys, c ∉ y.cps.toList) → Str.join (sepS c) xs = Str.join (sepS c) ys → xs = ys
  | [], _, h, _, _, _, _ => absurd rfl h
  | _, [], _, h, _, _, _ => absurd rfl h
  | [x], [y], _, _, _, _, h => by
    rw [PyProof.Rows.join_one, PyProof.Rows.join_one] at h
    rw [h]
  | [x], y :: y2 :: ys, _, _, hx, _, h => by
    have h := congrArg (fun s : Str => s.cps.toList) h
    rw [PyProof.Rows.join_one, join_two] at h
    exact absurd (by rw [h]; simp) (hx x (by simp))
  | x :: x2 :: xs, [y], _, _, _, hy, h => by
    have h := congrArg (fun s : Str => s.cps.toList) h
    rw [PyProof.Rows.join_one, join_two] at h
    exact absurd (by rw [← h]; simp) (hy y (by simp))
  | x :: x2 :: xs, y :: y2 :: ys, _, _, hx, hy, h => by
    have h := congrArg (fun s : Str => s.cps.toList) h
    rw [join_two, join_two] at h
    obtain ⟨e1, e2⟩ := cut_uniq (hx x (by simp)) (hy y (by simp)) h
    have ih := join_uniq (xs := x2 :: xs) (ys := y2 :: ys) (by simp) (by simp) (fun z hz => hx z (by simp [hz])) (fun z hz => hy z (by simp [hz])) (str_ext e2)
    rw [str_ext e1, ih]
theorem split_join {c : Nat} {xs : List Str} (h0 : xs ≠ []) (h : ∀ x ∈ xs, c ∉ x.cps.toList) : Txt.split (Str.join (sepS c) xs) (sepS c) = xs := by
  refine join_uniq (c := c) (fun e => ?_) h0 (StrLaws.split_free _ c) h (StrLaws.join_split _ _)
  have := PyProof.Rows.split_pos (Str.join (sepS c) xs) (sepS c)
  rw [e] at this
  exact absurd this (by decide)
theorem txt_join (s : Str) (xs : List Str) : Txt.join s xs = Str.join s xs := StrLaws.glued_eq_join s xs
end G

namespace G
open PySem PySem.NumText PyProof.Rows
/-! ### the digits of a whole number -/
def tS (n : Int) : Str := (toString n : Str)
theorem tS_cps (m : Nat) : (tS (m : Int)).cps.toList = (Nat.toDigits 10 m).map Char.toNat := PySem.W.KIN.signs_num m
theorem tS_dig (m : Nat) : AllDigits (tS (m : Int)).cps.toList := fun c hc => by
  rw [tS_cps] at hc
  obtain ⟨ch, hch, e⟩ := List.mem_map.mp hc
  have h := Nat.isDigit_of_mem_toDigits (by decide) (by decide) hch
  rw [Char.isDigit_iff_toNat] at h
  rw [← e]
  exact ⟨h.1, h.2⟩
theorem tS_ne (m : Nat) : (tS (m : Int)).cps.toList ≠ [] := by
  rw [tS_cps]
  intro e
  have h := tDigits_len_ge 10 m
  rw [List.map_eq_nil_iff.mp e] at h
  exact absurd h (by decide)
theorem tS_len {m k : Nat} (hk : 1 ≤ k) (h : m < 10 ^ k) : (tS (m : Int)).length ≤ k := by
  have e : (tS (m : Int)).length = (tS (m : Int)).cps.toList.length := by simp [Str.length]
  rw [e, tS_cps, List.length_map]
  exact digits10_le hk h
theorem tS_int {m : Nat} (h : m < 10 ^ 600) : intText? (tS (m : Int)) = some (m : Int) := by
  have e := intText_digits (tS_dig m) (tS_ne m) (Nat.le_trans (tS_len (by decide) h) (by decide))
  rw [tS_cps, PySem.W.KIN.val_back] at e
  exact e
theorem val_lt : ∀ (cs : List Nat) (acc : Nat), AllDigits cs → cs.foldl (fun acc c => acc * 10 + (c - 48)) acc < (acc + 1) * 10 ^ cs.length
  | [], acc, _ => by simp
  | c :: cs, acc, h => by
    have ih := val_lt cs (acc * 10 + (c - 48)) (fun d hd => h d (by simp [hd]))
    have hc := h c (by simp)
    rw [List.foldl_cons, List.length_cons]
    refine Nat.lt_of_lt_of_le ih ?_
    rw [Nat.pow_succ, Nat.mul_comm (10 ^ cs.length) 10, ← Nat.mul_assoc]
    exact Nat.mul_le_mul_right _ (by omega)
/-- no zero ahead -/
theorem tS_lead {m : Nat} (h0 : m ≠ 0) : ∃ c r, (tS (m : Int)).cps.toList = c :: r ∧ c ≠ 48 := by
  cases hc : (tS (m : Int)).cps.toList with
  | nil => exact absurd hc (tS_ne m)
  | cons c r =>
    refine ⟨c, r, rfl, fun e => ?_⟩
    subst e
    have hd := tS_dig m
    rw [hc] at hd
    have hv := PySem.W.KIN.val_back m
    rw [← tS_cps, hc] at hv
    have h1 := val_lt r 0 (fun d hd' => hd d (by simp [hd']))
    have h2 : m < 10 ^ r.length := by
      have : digitsVal (48 :: r) = r.foldl (fun acc c => acc * 10 + (c - 48)) 0 := rfl
      rw [this] at hv
      rw [hv] at h1
      simpa using h1
    have hl : (tS (m : Int)).cps.toList.length = r.length + 1 := by rw [hc]; rfl
    rw [tS_cps, List.length_map] at hl
    cases r with
    | nil =>
      have : m < 1 := h2
      omega
    | cons d r =>
      have := digits10_le (k := (d :: r).length) (by simp) h2
      omega
/-- a whole number's word -/
def intW (w : Str) : Bool := Txt.isascii w && (Txt.isdigit w && (decide (w.length ≤ 30) && (decide (w = "0") || !Txt.startswith w "0")))
theorem dig_asc {w : Str} (h : AllDigits w.cps.toList) : Txt.isascii w = true := by
  unfold Txt.isascii
  rw [Array.all_eq_true]
  intro i hi
  have := h w.cps[i] (by simp)
  rw [decide_eq_true_eq]
  omega
theorem dig_dig {w : Str} (h : AllDigits w.cps.toList) (hn : w.cps.toList ≠ []) : Txt.isdigit w = true := by
  have hs : 0 < w.length := by
    have e : w.length = w.cps.toList.length := by simp [Str.length]
    rw [e]
    exact List.length_pos_iff.mpr hn
  unfold Txt.isdigit
  rw [Bool.and_eq_true, decide_eq_true_eq]
  refine ⟨hs, ?_⟩
  rw [Array.all_eq_true]
  intro i hi
  have h1 := h w.cps[i] (by simp)
  have h2 := PySem.W.os_isdigit (c := w.cps[i]) (by omega)
  rw [decide_eq_true h1.1, decide_eq_true h1.2] at h2
  unfold Txt.isdigit at h2
  have h3 := (Bool.and_eq_true_iff.mp h2).2
  simpa using h3
theorem starts0 {w : Str} {c : Nat} {r : List Nat} (h : w.cps.toList = c :: r) (hc : c ≠ 48) : Txt.startswith w "0" = false := by
  refine Bool.eq_false_iff.mpr fun hs => hc ?_
  unfold Txt.startswith at hs
  have h2 := (Bool.and_eq_true_iff.mp hs).2
  have h3 : w.cps.extract 0 1 = #[48] := eq_of_beq h2
  have h4 := congrArg Array.toList h3
  rw [Array.toList_extract, h] at h4
  simpa using h4
theorem tS_w {m : Nat} (h : m < 10 ^ 30) : intW (tS (m : Int)) = true := by
  unfold intW
  rw [dig_asc (tS_dig m), dig_dig (tS_dig m) (tS_ne m), decide_eq_true (tS_len (by decide) h)]
  by_cases h0 : m = 0
  · subst h0
    decide +kernel
  · obtain ⟨c, r, e, hc⟩ := tS_lead h0
    rw [starts0 e hc]
    simp
theorem tS_free {m c : Nat} (hc : c < 48) : c ∉ (tS (m : Int)).cps.toList := fun h => by
  have := tS_dig m c h
  omega
end G

/-! ### len(set(xs)), xs a list of ints -/
namespace G
open PySem PySem.Spec PyProof.Rows L2
theorem met_nd (f : Nat → Int) : ∀ i, (firstMet f i).Nodup
  | 0 => by rw [firstMet_zero]; exact List.nodup_nil
  | i + 1 => by
    rw [firstMet_succ]
    unfold step_dedup
    have ih := met_nd f i
    split
    · exact ih
    · rename_i h
      refine List.nodup_append.mpr ⟨ih, by simp, fun a ha b hb e => ?_⟩
      rw [List.mem_singleton.mp hb] at e
      exact h (List.any_eq_true.mpr ⟨a, ha, by simp [e]⟩)
theorem met_mem (f : Nat → Int) (i : Nat) (k : Int) : k ∈ firstMet f i ↔ ∃ j, j < i ∧ f j = k := by
  have h := firstMet_any f i k
  have e1 : k ∈ firstMet f i ↔ (firstMet f i).any (· == k) = true := by
    rw [List.any_eq_true]
    exact ⟨fun h => ⟨k, h, by simp⟩, fun ⟨x, hx, e⟩ => by rw [← eq_of_beq e]; exact hx⟩
  rw [e1, h, List.any_eq_true]
  constructor
  · rintro ⟨x, hx, e⟩
    obtain ⟨j, hj, rfl⟩ := List.mem_map.mp hx
    exact ⟨j, List.mem_range.mp hj, eq_of_beq e⟩
  · rintro ⟨j, hj, e⟩
    exact ⟨f j, List.mem_map.mpr ⟨j, List.mem_range.mpr hj, rfl⟩, by simp [e]⟩
theorem int_nd_len : ∀ (l D : List Int), l.Nodup → (∀ x ∈ l, x ∈ D) → l.length ≤ D.length
  | [], D, _, _ => Nat.zero_le _
  | a :: l, D, h, hs => by
    have ha : a ∈ D := hs a (by simp)
    obtain ⟨h1, h2⟩ := List.nodup_cons.mp h
    have := int_nd_len l (D.erase a) h2 fun x hx => (List.mem_erase_of_ne (fun (e : x = a) => h1 (e ▸ hx))).mpr (hs x (by simp [hx]))
    rw [List.length_erase_of_mem ha] at this
    have hp : 0 < D.length := List.length_pos_of_mem ha
    simp only [List.length_cons]
    omega
theorem nd_of_len : ∀ (ns l : List Int), l.Nodup → (∀ x ∈ l, x ∈ ns) → l.length = ns.length → ns.Nodup
  | [], _, _, _, _ => List.nodup_nil
  | a :: t, l, h, hs, e => by
    have ha : a ∉ t := fun ha => by
      have := int_nd_len l t h fun x hx => by
        rcases List.mem_cons.mp (hs x hx) with e | h
        · rw [e]; exact ha
        · exact h
      simp only [List.length_cons] at e
      omega
    by_cases hl : a ∈ l
    · refine List.nodup_cons.mpr ⟨ha, nd_of_len t (l.erase a) (h.erase a) (fun x hx => ?_) (by rw [List.length_erase_of_mem hl, e]; rfl)⟩
      have h2 := (h.mem_erase_iff).mp hx
      rcases List.mem_cons.mp (hs x h2.2) with e | h
      · exact absurd e h2.1
      · exact h
    · have := int_nd_len l t h fun x hx => by
        rcases List.mem_cons.mp (hs x hx) with e | h
        · exact absurd (e ▸ hx) hl
        · exact h
      simp only [List.length_cons] at e
      omega
/-- as many different ones as there are, or fewer -/
theorem met_len {ns : List Int} : (firstMet (fun i => ns.getD i 0) ns.length).length ≤ ns.length ∧ ((firstMet (fun i => ns.getD i 0) ns.length).length = ns.length ↔ ns.Nodup) := by
  have hle := firstMet_length_le (fun i => ns.getD i 0) ns.length
  have hm : ∀ k : Int, k ∈ firstMet (fun i => ns.getD i 0) ns.length ↔ k ∈ ns := fun k => by
    rw [met_mem]
    constructor
    · rintro ⟨j, hj, rfl⟩
      rw [List.getD_eq_getElem?_getD, List.getElem?_eq_getElem hj]
      exact List.getElem_mem hj
    · intro h
      obtain ⟨j, hj, e⟩ := List.getElem_of_mem h
      exact ⟨j, hj, by rw [List.getD_eq_getElem?_getD, List.getElem?_eq_getElem hj, e]; rfl⟩
  refine ⟨hle, fun e => ?_, fun h => Nat.le_antisymm hle (int_nd_len _ _ h fun x hx => (hm x).mpr hx)⟩
  exact nd_of_len _ _ (met_nd _ _) (fun x hx => (hm x).mp hx) e
def tLenSetI (K : PySem.W.Frag) (ta : TE) : TE := fun σ H Q => ta σ H fun x H1 => ∃ (l : Addr) (ns : List Int), x = .ref l ∧ SqL K H1 l (ns.map V.int) ∧ ns.length < 4000 ∧ Q (.int ((firstMet (fun i => ns.getD i 0) ns.length).length : Nat)) H1
section
variable {K : PySem.W.Frag} {Γ : Ga} {k : Gp → Ga → Prop} {te : TE}
theorem we_lenSetI (h : WQ te Γ fun q Γ1 => ∃ ns : List Int, q = dP (.list (ns.map .int)) ∧ ns.length < 4000 ∧ ∀ m : Nat, m ≤ ns.length → (m = ns.length ↔ ns.Nodup) → k (dat (.int m)) Γ1) : WE (tLenSetI K te) Γ k := fun ω σ H S Q f => h ω σ H S _ fun v q Γ1 ω1 H1 ⟨ns, e, hl, hk⟩ S1 p f1 => by
  subst e
  obtain ⟨a, xs, rfl, ha, hd⟩ := DR.lst_inv p
  rw [hd.ints] at ha
  have hm := met_len (ns := ns)
  exact ⟨a, ns, rfl, SqL.of (vw_H ha), hl, f _ _ Γ1 ω1 H1 (hk _ hm.1 hm.2) S1 (DR.int _) f1⟩
end
end G

/-! ### o.m(..), truth of a list, xs[::-1] -/
namespace G
open PySem PySem.Spec PyProof.Rows L2
section
variable {K : PySem.W.Frag} {P : Nat → Bool} {Γ : Ga} {k : Gp → Ga → Prop} {kb : Bool → Ga → Prop} {te ta : TE} {tr : TA} {n : Nat} {F : Fw} {E : XK} {C : Addr} {m : Str}
theorem we_meth {i : Nat} {ds : List (Str × PyData)} (h : Γ[i]? = some (some (per (objP C ds)))) (nm : lookD m ds = none)
    (ha : WA tr Γ fun as Γ1 => Γ1[i]? = some (some (per (objP C ds))) ∧ as.length + 1 = n ∧ slots as = [] ∧ F (per (objP C ds) :: (qsOf as).map per) (fun g _ => k g Γ1) fun _ _ => False) :
    WE (tMeth C m (SpG n F) [] E (tVar i) tr) Γ k := fun ω σ H S Q f => by
  obtain ⟨v, e, hp⟩ := S.2 i _ h
  obtain ⟨a, dx, fs, rfl, hA, hf⟩ := id hp
  refine ⟨_, e, a, dx, fs, rfl, vw_H hA, Fds.none hf nm, ha ω σ H S _ fun vs as Γ1 ω1 H1 ⟨h1, hn, hs, hF⟩ S1 ax f1 => ?_⟩
  obtain ⟨v1, e1, hp1⟩ := S1.2 i _ h1
  rw [e] at e1
  cases e1
  obtain ⟨l1, l2, l3⟩ := args_q hs ax
  rw [List.append_nil]
  refine call_per (qs := objP C ds :: qsOf as) (k := k) (kx := fun _ => False) S1 (fun j q v h3 h4 => ?_) (by simp [l1]) (by simp [l1, ← l2, hn]) hF (fun v g ω' H' hk S' p f2 => f v g Γ1 ω' H' hk S' p (f1.trans f2)) fun _ _ _ hx => hx.elim
  match j, h3, h4 with
  | 0, h3, h4 =>
    cases h3
    cases h4
    exact hp1
  | j + 1, h3, h4 => exact l3 j q v (by simpa using h3) (by simpa using h4)
/-- a value as a test -/
def tTru (K : PySem.W.Frag) (ta : TE) : TT := fun σ H Q => ta σ H fun x H' => ∃ b, TruV K x H' b ∧ Q b H'
theorem wt_truL (h : WQ ta Γ fun q Γ1 => ∃ ds, q = dP (.list ds) ∧ kb (!ds.isEmpty) Γ1) : WT (tTru K ta) Γ kb := fun ω σ H S Q f => h ω σ H S _ fun v q Γ1 ω1 H1 ⟨ds, e, hk⟩ S1 p f1 => by
  subst e
  obtain ⟨a, xs, rfl, ha, hd⟩ := DR.lst_inv p
  have e : (!xs.isEmpty) = !ds.isEmpty := by
    have := hd.length
    cases xs <;> cases ds <;> simp_all
  refine ⟨!xs.isEmpty, .inl ⟨xs, SqL.of (vw_H ha), rfl⟩, ?_⟩
  rw [e]
  exact f _ Γ1 ω1 H1 hk S1 f1
theorem DRs.rev {H : Hp} : ∀ {ds : List PyData} {vs : List V}, DRs H vs ds → DRs H vs.reverse ds.reverse
  | [], _, h => by cases h; exact .nil
  | d :: ds, _, h => by
    cases h with | cons a b =>
    rw [List.reverse_cons, List.reverse_cons]
    exact (DRs.rev b).append (.cons a .nil)
theorem we_revL (h : WQ te Γ fun q Γ1 => ∃ ds, q = dP (.list ds) ∧ k (own ds.reverse) Γ1) : WE (tRevL K te) Γ k := fun ω σ H S Q f => h ω σ H S _ fun v q Γ1 ω1 H1 ⟨ds, e, hk⟩ S1 p f1 => by
  subst e
  obtain ⟨a, xs, rfl, ha, hd⟩ := DR.lst_inv p
  exact ⟨a, xs, rfl, SqL.of (vw_H ha), fun l hl => f _ _ Γ1 (paint ω1 l 2) _ hk (S1.new 2 hl) ⟨l, _, rfl, paint_at, (hd.rev).mono (paint_same hl 0)⟩ (f1.trans (paint_fr hl))⟩
end
end G

/-! ### a list of one's own lent for a call that answers a bool -/
namespace G
open PySem L2
end G

/-! ### what is walked, said as a list of data; comprehensions and loops by functions -/
namespace G
open PySem L2
def WIL (wi : TI) (Γ : Ga) (k : List PyData → Ga → Prop) : Prop := WI wi Γ fun n it Γ1 => ∃ ds : List PyData, n = ds.length ∧ (∀ i, i < n → it i = dP (ds.getD i .none)) ∧ k ds Γ1
section
variable {kg : Ga → Prop} {kt : Bool → Ga → Prop} {u : TS} {K : PySem.W.Frag} {P : Nat → Bool} {Γ : Ga} {D : Pe} {k : Gp → Ga → Prop} {kd : List PyData → Ga → Prop} {te tl : TE} {t tb : TS} {ta : TA} {g : TG} {wi : TI} {vs : List Nat} {tt : TT}
theorem wil_list (h : WQ tl Γ fun q Γ1 => ∃ ds, q = dP (.list ds) ∧ kd ds Γ1) : WIL (iList K tl) Γ kd :=
  wi_list (h.imp fun q Γ1 ⟨ds, e, hk⟩ => ⟨ds, e, ds, rfl, fun _ _ => rfl, hk⟩)
theorem wil_range1 (h : WA ta Γ fun as Γ1 => ∃ j : Int, as = [.q (dP (.int j))] ∧ -(2 ^ 62) ≤ j ∧ j < 2 ^ 62 ∧ kd ((List.range j.toNat).map fun i => .int (i : Nat)) Γ1) : WIL (iRng1 ta) Γ kd :=
  wi_range1 (h.imp fun as Γ1 ⟨j, e, a, b, hk⟩ => ⟨j, e, a, b, _, by simp, fun i hi => by
    rw [List.getD_eq_getElem?_getD, List.getElem?_map, List.getElem?_range hi]
    simp, hk⟩)
theorem we_lcP {wi : TI} {vs : List Nat} (h : WI wi Γ fun n it Γ1 => ∃ Pv : Nat → List PyData → Ga → Prop, Pv 0 [] Γ1 ∧ (∀ acc Γ2, Pv n acc Γ2 → k (own acc) Γ2) ∧ ∀ i acc Γ2, i < n → Pv i acc Γ2 → Γ2.length = Γ.length →
    WG (fun i => !vs.contains i) g (it i) (wipeG Γ2 vs) fun Γ3 => WT tt Γ3 fun b Γ4 => if b = true then WQ te Γ4 fun q Γ5 => ∃ d, q = dP d ∧ acc.length < 100000 ∧ Pv (i + 1) (acc ++ [d]) (wipeG Γ5 vs) else Pv (i + 1) acc (wipeG Γ4 vs)) :
    WE (tLc wi g tt te vs) Γ k := fun ω σ H S Q f => h ω σ H S _ fun J n it Γ1 ω1 H1 ⟨Pv, h0, hd, hs⟩ S1 W f1 => by
  intro L hL
  have hlen : ∀ {Γ2 : Ga} {ω2 : Col} {σ2 : L2.St} {H2 : Hp}, Sta Γ2 ω2 σ2 H2 → σ2.length = σ.length → Γ2.length = Γ.length := fun {Γ2 ω2 σ2 H2} S2 e => by rw [← S2.1, e, S.1]
  refine ⟨fun i μ H' => μ = n - i ∧ i ≤ n ∧ ∃ acc xs Γ2 ω2, Pv i acc Γ2 ∧ Sta Γ2 ω2 σ H' ∧ Fr ω1 ω2 H1 H' ∧ ω2 L = 1 ∧ H' L = some (.lst xs) ∧ DRs (vw ω2 H' 0) xs acc,
    ⟨n, by simp, Nat.zero_le _, [], [], Γ1, paint ω1 L 1, h0, S1.new 1 hL, paint_fr hL, by unfold paint; rw [if_pos rfl], upd_same, .nil⟩, ?_⟩
  rintro i μ H' ⟨rfl, hi, acc, xs, Γ2, ω2, p2, S2, f2, c2, e2, d2⟩
  have sA : Same (vw ω1 H1 0) H' := fun a o e => vw_H (f2.1 a o e)
  by_cases hlt : i < n
  · refine .inr ⟨((W i H' sA).1 hlt).1, fun H'' => ∃ acc xs Γ2 ω2, Pv (i + 1) acc Γ2 ∧ Sta Γ2 ω2 σ H'' ∧ Fr ω1 ω2 H1 H'' ∧ ω2 L = 1 ∧ H'' L = some (.lst xs) ∧ DRs (vw ω2 H'' 0) xs acc, fun H'' z => ⟨n - (i + 1), by omega, rfl, hlt, z⟩, fun x H'' y => ?_⟩
    obtain ⟨ω3, S3, f3, q3⟩ := yld_ok W rfl f2 S2 hlt y
    refine hs i acc Γ2 hlt p2 (hlen S2 rfl) ω3 _ H'' x (S3.wipe vs) q3 _ fun Γ4 ω4 σ4 H4 h4 S4 f4 q4 => ?_
    obtain ⟨S5, ew⟩ := S4.unwipe q4
    refine ⟨ew, h4 ω4 σ4 H4 S4 _ fun b Γ6 ω6 H6 hk S6 f6 => ?_⟩
    have f16 : Fr ω1 ω6 H1 H6 := ((f2.trans f3).trans f4).trans f6
    have f26 : Fr ω2 ω6 H' H6 := (f3.trans f4).trans f6
    have keep : ∀ {ω7 : Col} {H7 : Hp}, Fr ω2 ω7 H' H7 → ω7 L = 1 ∧ H7 L = some (.lst xs) ∧ DRs (vw ω7 H7 0) xs acc := fun {ω7 H7} f7 => by
      have z := f7.2 L _ (vw_mk c2 e2)
      exact ⟨vw_c z, vw_H z, d2.mono f7.1⟩
    cases b with
    | false =>
      refine iteF ?_
      obtain ⟨k1, k2, k3⟩ := keep f26
      exact ⟨acc, xs, _, ω6, hk, (S6.unwipe q4).1, f16, k1, k2, k3⟩
    | true =>
      refine iteT ((show WQ te Γ6 _ from hk) ω6 σ4 H6 S6 _ fun w q Γ7 ω7 H7 ⟨d, eq, hl, h7⟩ S7 p7 f7 => ?_)
      subst eq
      obtain ⟨k1, k2, k3⟩ := keep (f26.trans f7)
      have m0 : Same (vw ω7 H7 0) (vw ω7 (upd H7 L (.lst (xs ++ [w]))) 0) := mut_same (by rw [k1]; decide)
      refine ⟨xs, k2, by rw [k3.length]; exact Nat.lt_of_lt_of_le hl (by decide), acc ++ [d], xs ++ [w], _, ω7, h7, ?_, ?_, k1, upd_same, (k3.mono m0).snoc (DR.mono m0 d p7)⟩
      · exact ((S7.unwipe q4).1).move m0 fun i g _ => mut_same (by rw [k1]; omega)
      · exact ⟨(f16.trans f7).1.trans m0, fun a o h => by
          have z := (f16.trans f7).2 a o h
          exact vw_mk (vw_c z) (by rw [upd_ne (ne_of_none (vw_H h) hL)]; exact vw_H z)⟩
  · have e : i = n := by omega
    subst e
    refine .inl ⟨(W i H' sA).2 (Nat.le_refl _), ?_⟩
    have pn : ∀ c, c ≠ 1 → Same (vw ω2 H' c) (vw (paint ω2 L 2) H' c) := fun c hc a o h => by
      refine vw_mk ?_ (vw_H h)
      unfold paint
      rw [if_neg]
      · exact vw_c h
      · intro e
        rw [e] at h
        exact hc ((vw_c h).symm.trans c2)
    refine f (.ref L) (own acc) Γ2 (paint ω2 L 2) H' (hd acc Γ2 p2) (S2.move (pn 0 (by decide)) fun i _ _ => pn _ (by omega)) ⟨L, xs, rfl, vw_mk (by unfold paint; rw [if_pos rfl]) e2, d2.mono (pn 0 (by decide))⟩ (f1.trans ⟨f2.1.trans (pn 0 (by decide)), fun a o h => ?_⟩)
    have z := f2.2 a o h
    refine vw_mk ?_ (vw_H z)
    unfold paint
    rw [if_neg (ne_of_none (vw_H h) hL)]
    exact vw_c z
theorem ws_forP {wi : TI} (h : WI wi Γ fun n it Γ1 => ∃ Pv : Nat → Ga → Prop, Pv 0 Γ1 ∧ (∀ Γ2, Pv n Γ2 → D.nx Γ2) ∧ ∀ i Γ2, i < n → Pv i Γ2 →
    WG P g (it i) Γ2 fun Γ3 => WS P tb Γ3 (D.lp (Pv (i + 1)))) : WS P (tFor wi g tb) Γ D := fun ω σ H S E m => h ω σ H S _ fun J n it Γ1 ω1 H1 ⟨Pv, h0, hd, hs⟩ S1 W f1 => by
  refine ⟨fun i μ σ' H' => μ = n - i ∧ i ≤ n ∧ ∃ Γ2 ω2, Pv i Γ2 ∧ Sta Γ2 ω2 σ' H' ∧ Fr ω1 ω2 H1 H' ∧ Pin P σ σ', ⟨n, by simp, Nat.zero_le _, Γ1, ω1, h0, S1, Fr.refl, Pin.refl⟩, ?_⟩
  rintro i μ σ' H' ⟨rfl, hi, Γ2, ω2, p2, S2, f2, q2⟩
  have sA : Same (vw ω1 H1 0) H' := fun a o e => vw_H (f2.1 a o e)
  by_cases hlt : i < n
  · refine .inr ⟨((W i H' sA).1 hlt).1, fun σ'' H'' => ∃ Γ2 ω2, Pv (i + 1) Γ2 ∧ Sta Γ2 ω2 σ'' H'' ∧ Fr ω1 ω2 H1 H'' ∧ Pin P σ σ'', fun σ'' H'' z => ⟨n - (i + 1), by omega, rfl, hlt, z⟩, fun x H'' y => ?_⟩
    obtain ⟨ω3, S3, f3, q3⟩ := yld_ok W rfl f2 S2 hlt y
    refine hs i Γ2 hlt p2 ω3 σ' H'' x S3 q3 _ fun Γ4 ω4 σ4 H4 h4 S4 f4 q4 => ?_
    have f14 : Fr ω1 ω4 H1 H4 := (f2.trans f3).trans f4
    refine h4 ω4 σ4 H4 S4 _ ⟨fun Γ' ω' σ5 H5 hk S5 f5 q5 => ⟨Γ', ω', hk, S5, f14.trans f5, (q2.trans q4).trans q5⟩,
      fun v gg Γ' ω' σ5 H5 hk S5 p5 f5 q5 => m.rt v gg Γ' ω' σ5 H5 hk S5 p5 (f1.trans (f14.trans f5)) ((q2.trans q4).trans q5),
      fun Γ' ω' σ5 H5 hk S5 f5 q5 => m.nx Γ' ω' σ5 H5 hk S5 (f1.trans (f14.trans f5)) ((q2.trans q4).trans q5),
      fun Γ' ω' σ5 H5 hk S5 f5 q5 => ⟨Γ', ω', hk, S5, f14.trans f5, (q2.trans q4).trans q5⟩⟩
  · have e : i = n := by omega
    subst e
    exact .inl ⟨(W i H' sA).2 (Nat.le_refl _), m.nx Γ2 ω2 σ' H' (hd Γ2 p2) S2 (f1.trans f2) q2⟩

/-- [e for x in xs if t], by a function; but for its own names the block leaves the slots -/
theorem we_lcF {α : Type} (enc : α → PyData) {β : Type} (enc' : β → PyData) (f : α → Option β) (h : WIL wi Γ fun ds Γ1 => ∃ xs : List α, ds = xs.map enc ∧ wipeG Γ1 vs = Γ1 ∧ xs.length ≤ 100000 ∧
      (∀ x, x ∈ xs → WG (fun i => !vs.contains i) g (dP (enc x)) Γ1 fun Γ3 => WT tt Γ3 fun b Γ4 => if b = true then WQ te Γ4 fun q Γ5 => ∃ y, f x = some y ∧ q = dP (enc' y) ∧ wipeG Γ5 vs = Γ1 else f x = none ∧ wipeG Γ4 vs = Γ1) ∧
      k (own ((xs.filterMap f).map enc')) Γ1) : WE (tLc wi g tt te vs) Γ k := by
  refine we_lcP fun ω σ H S R c => h ω σ H S R fun J n it Γ1 ω1 H1 ⟨ds, hn, hit, xs, e, hw, hl, hb, hk⟩ S1 W f1 => c J n it Γ1 ω1 H1 ?_ S1 W f1
  subst e
  have hlen : n = xs.length := by rw [hn, List.length_map]
  refine ⟨fun i acc Γ2 => Γ2 = Γ1 ∧ acc = ((xs.take i).filterMap f).map enc', ⟨rfl, by simp⟩, ?_, ?_⟩
  · rintro acc Γ2 ⟨rfl, rfl⟩
    rw [hlen, List.take_length]
    exact hk
  · rintro i acc Γ2 hi ⟨rfl, rfl⟩ -
    obtain ⟨x, hx⟩ : ∃ x, xs[i]? = some x := ⟨xs[i]'(by omega), List.getElem?_eq_getElem (by omega)⟩
    have e : it i = dP (enc x) := by
      rw [hit i hi, List.getD_eq_getElem?_getD, List.getElem?_map, hx]; rfl
    have et : xs.take (i + 1) = xs.take i ++ [x] := by rw [List.take_add_one, hx]; rfl
    rw [e, hw]
    refine fun ω2 σ2 H2 v S2 p R2 c2 => hb x (List.mem_of_getElem? hx) ω2 σ2 H2 v S2 p R2 fun Γ3 ω3 σ3 H3 h3 => c2 Γ3 ω3 σ3 H3 ?_
    refine fun ω4 σ4 H4 S4 R4 c4 => h3 ω4 σ4 H4 S4 R4 fun b Γ5 ω5 H5 h5 => c4 b Γ5 ω5 H5 ?_
    cases b with
    | true =>
      obtain h5 := (show WQ te Γ5 _ from h5)
      refine h5.imp fun q Γ6 ⟨y, e1, e2, e3⟩ => ⟨_, e2, ?_, e3, ?_⟩
      · rw [List.length_map]
        have := List.length_filterMap_le f (xs.take i)
        rw [List.length_take] at this
        omega
      · rw [et, List.filterMap_append, List.map_append]
        simp [e1]
    | false =>
      obtain ⟨e1, e2⟩ := (show f x = none ∧ wipeG Γ5 vs = Γ2 from h5)
      refine ⟨e2, ?_⟩
      rw [et, List.filterMap_append]
      simp [e1]
/-- [e for x in xs] -/
theorem we_lcM {α : Type} (enc : α → PyData) {β : Type} (enc' : β → PyData) (f : α → β) (h : WIL wi Γ fun ds Γ1 => ∃ xs : List α, ds = xs.map enc ∧ wipeG Γ1 vs = Γ1 ∧ xs.length ≤ 100000 ∧
      (∀ x, x ∈ xs → WG (fun i => !vs.contains i) g (dP (enc x)) Γ1 fun Γ3 => WQ te Γ3 fun q Γ5 => q = dP (enc' (f x)) ∧ wipeG Γ5 vs = Γ1) ∧
      k (own ((xs.map f).map enc')) Γ1) : WE (tLc wi g tYes te vs) Γ k := by
  refine we_lcF enc enc' (fun x => some (f x)) fun ω σ H S R c => h ω σ H S R fun J n it Γ1 ω1 H1 ⟨ds, hn, hit, xs, e, hw, hl, hb, hk⟩ => c J n it Γ1 ω1 H1 ⟨ds, hn, hit, xs, e, hw, hl, fun x hx => ?_, ?_⟩
  · refine fun ω2 σ2 H2 v S2 p R2 c2 => hb x hx ω2 σ2 H2 v S2 p R2 fun Γ3 ω3 σ3 H3 h3 => c2 Γ3 ω3 σ3 H3 ?_
    exact wt_yes (iteT (h3.imp fun q Γ5 ⟨a, b⟩ => ⟨_, rfl, a, b⟩))
  · have : xs.filterMap (fun x => some (f x)) = xs.map f := by
      rw [show (fun x => some (f x)) = some ∘ f from rfl, List.filterMap_eq_map]
    rw [this]
    exact hk
/-- a loop over xs: what holds of what has been walked -/
theorem ws_forF {α : Type} (enc : α → PyData) (Pv : List α → Ga → Prop) (h : WIL wi Γ fun ds Γ1 => ∃ xs : List α, ds = xs.map enc ∧ Pv [] Γ1 ∧ (∀ Γ2, Pv xs Γ2 → D.nx Γ2) ∧
      ∀ pre x post Γ2, xs = pre ++ x :: post → Pv pre Γ2 → WG P g (dP (enc x)) Γ2 fun Γ3 => WS P tb Γ3 (D.lp (Pv (pre ++ [x])))) : WS P (tFor wi g tb) Γ D := by
  refine ws_forP fun ω σ H S R c => h ω σ H S R fun J n it Γ1 ω1 H1 ⟨ds, hn, hit, xs, e, h0, hd, hs⟩ S1 W f1 => c J n it Γ1 ω1 H1 ?_ S1 W f1
  subst e
  have hlen : n = xs.length := by rw [hn, List.length_map]
  refine ⟨fun i Γ2 => Pv (xs.take i) Γ2, h0, fun Γ2 p => hd Γ2 (by rw [hlen, List.take_length] at p; exact p), fun i Γ2 hi p => ?_⟩
  have hi' : i < xs.length := by omega
  have e : it i = dP (enc xs[i]) := by
    rw [hit i hi, List.getD_eq_getElem?_getD, List.getElem?_map, List.getElem?_eq_getElem hi']; rfl
  rw [e]
  have q := hs (xs.take i) xs[i] (xs.drop (i + 1)) Γ2 (by rw [← List.drop_eq_getElem_cons hi', List.take_append_drop]) p
  rw [List.take_append_getElem hi'] at q
  exact q
end
end G

/-! ### any, abs, sum, max and min of a list of ints; typed data -/
namespace G
open PySem L2
abbrev rAnyA (K : PySem.W.Frag) : List V → Hp → VK → Prop := rAny K
abbrev rSumA (K : PySem.W.Frag) : List V → Hp → VK → Prop := rSum K
def rAbsI : List V → Hp → VK → Prop := fun xs H Q => ∃ i, xs = [.int i] ∧ Q (.int (if i < 0 then -i else i)) H
section
variable {X : Cx}
end
section
variable {K : PySem.W.Frag} {Γ : Ga} {k : Gp → Ga → Prop}
theorem any_map {α : Type} {p : α → Bool} {xs : List α} : (xs.map p).any id = xs.any p := by
  induction xs with
  | nil => rfl
  | cons x xs ih => simp [List.any_cons, ih]
theorem ck_any {bs : List Bool} (hk : k (dat (.bool (bs.any id))) Γ) : CbK (rAnyA K) [.list (bs.map .bool)] k Γ := ck_of (q := dP (.bool (bs.any id))) (fun A H vs s h Q f => by
  cases h with | cons x y =>
  cases y
  obtain ⟨a, xs, rfl, ha, hd⟩ := x.lst_inv
  rw [hd.bools] at ha
  exact ⟨a, bs, rfl, SqL.of (s _ _ ha), f _ (DR.bl _)⟩) hk
theorem ck_anyF {α : Type} {p : α → Bool} {xs : List α} (hk : k (dat (.bool (xs.any p))) Γ) : CbK (rAnyA K) [.list ((xs.map p).map .bool)] k Γ := ck_any (by rw [any_map]; exact hk)
theorem ck_allF {α : Type} {p : α → Bool} {xs : List α} (hk : k (dat (.bool (xs.all p))) Γ) : CbK (rAllA K) [.list ((xs.map p).map .bool)] k Γ := ck_all (by rw [all_map]; exact hk)
theorem ck_sumI {ns : List Int} (hk : k (dat (.int ns.sum)) Γ) : CbK (rSumA K) [.list (ns.map .int)] k Γ := ck_of (q := dP (.int ns.sum)) (fun A H vs s h Q f => by
  cases h with | cons x y =>
  cases y
  obtain ⟨a, xs, rfl, ha, hd⟩ := x.lst_inv
  rw [hd.ints] at ha
  exact ⟨a, ns, rfl, SqL.of (s _ _ ha), f _ (DR.int _)⟩) hk
theorem ck_abs {i : Int} (hk : k (dat (.int (if i < 0 then -i else i))) Γ) : CbK rAbsI [.int i] k Γ := ck_of (q := dP (.int (if i < 0 then -i else i))) (fun A H vs s h Q f => by
  cases h with | cons x y =>
  cases y
  cases x.int_inv
  exact ⟨i, rfl, f _ (DR.int _)⟩) hk
end
/-! ### data that is told apart by what it tells -/
structure EncOk {α : Type} [DecidableEq α] (n : Nat) (enc : α → PyData) : Prop where
  eqv : ∀ x y, PyData.eqv (enc x) (enc y) = decide (x = y)
  lay : ∀ x, Lay n (enc x)
section
variable {K : PySem.W.Frag} {Γ : Ga} {k : Gp → Ga → Prop} {α β : Type} [DecidableEq α] [DecidableEq β] {n m : Nat} {enc : α → PyData} {enc' : β → PyData}
theorem enc_int : EncOk 0 PyData.int := ⟨fun _ _ => eqv_int, fun _ => lay_int⟩
theorem EncOk.lst (h : EncOk n enc) : EncOk (n + 1) (fun xs : List α => PyData.list (xs.map enc)) := ⟨fun _ _ => eqv_list_inj h.eqv, fun xs => lay_list fun d hd => by
  obtain ⟨x, _, rfl⟩ := List.mem_map.mp hd
  exact h.lay x⟩
theorem enc_row : EncOk 1 rowI := enc_int.lst
theorem dec_same {p : Prop} (i j : Decidable p) : @decide p i = @decide p j := decide_eq_decide.mpr Iff.rfl
theorem ok_neE (h : EncOk n enc) {x y : α} [i : Decidable (x = y)] (hk : k (dat (.bool (!decide (x = y)))) Γ) (hn : n ≤ 64 := by decide) : OpK (rNeD K) (enc x) (enc y) k Γ := ok_ne ((h.lay x).shaped hn) ((h.lay y).shaped hn) (by rw [h.eqv, dec_same _ i]; exact hk)
end
end G

namespace G
open PySem L2
def isNon : PyData → Bool
  | .none => true
  | _ => false
section
variable {K : PySem.W.Frag} {Γ : Ga} {k : Gp → Ga → Prop} {ta : TE} {tl : TA}
theorem DR.non_iff {A : Hp} {v : V} {d : PyData} (h : DR A v d) : decide (v = V.non) = isNon d := by cases h <;> simp [isNon]
/-- x is None, x is not None, of any data -/
theorem we_isNd (h : WQ ta Γ fun q Γ1 => ∃ d, q = dP d ∧ k (dat (.bool (isNon d))) Γ1) : WE (tOp rIsN0 ta (tC .non)) Γ k := fun ω σ H S Q f => h ω σ H S _ fun v q Γ1 ω1 H1 ⟨d, e, hk⟩ S1 p f1 => by
  subst e
  exact ⟨rfl, f _ _ Γ1 ω1 H1 hk S1 (by rw [DR.non_iff p]; exact DR.bl _) f1⟩
theorem we_notNd (h : WQ ta Γ fun q Γ1 => ∃ d, q = dP d ∧ k (dat (.bool (!isNon d))) Γ1) : WE (tOp rNotN0 ta (tC .non)) Γ k := fun ω σ H S Q f => h ω σ H S _ fun v q Γ1 ω1 H1 ⟨d, e, hk⟩ S1 p f1 => by
  subst e
  exact ⟨rfl, f _ _ Γ1 ω1 H1 hk S1 (by rw [DR.non_iff p]; exact DR.bl _) f1⟩
end
theorem ws_seqI {P : Nat → Bool} {c : TT} {t u r : TS} {Γ : Ga} {D : Pe} (h : WS P (tIfS c t u) Γ (D.to fun Γ' => WS P r Γ' D)) : WS P (tSeq (tIfS c t u) r) Γ D := ws_seq h
theorem range_split {k : Nat} {pre post : List Nat} {x : Nat} (h : List.range k = pre ++ x :: post) : x = pre.length ∧ x < k := by
  have h1 : (List.range k)[pre.length]? = some x := by rw [h]; simp
  have h2 : pre.length < k := by
    have := congrArg List.length h
    simp at this
    omega
  rw [List.getElem?_range h2] at h1
  cases h1
  exact ⟨rfl, h2⟩
end G

/-! ### lists of one's own lent for a call that answers a scalar -/
namespace G
open PySem L2
def scal : PyData → Bool
  | .none | .bool _ | .int _ | .str _ => true
  | _ => false
theorem DR.scal {A A' : Hp} {v : V} : ∀ {d : PyData}, G.scal d = true → DR A v d → DR A' v d
  | .none, _, h => by cases h; exact .non
  | .bool _, _, h => by cases h; exact .bl _
  | .int _, _, h => by cases h; exact .int _
  | .str _, _, h => by cases h; exact .str _
end G

namespace G
open PySem L2
theorem ws_par {P : Nat → Bool} {Γ : Ga} {D : Pe} {i j : Nat} {ta : TA} (hi : P i = false) (hj : P j = false) (h : WA ta Γ fun as Γ1 => ∃ q q' : Per, as = [.q q, .q q'] ∧ D.nx ((Γ1.set i (some (per q))).set j (some (per q')))) : WS P (tPar i j ta) Γ D := fun ω σ H S E m => h ω σ H S _ fun vs as Γ1 ω1 H1 ⟨q, q', e, hk⟩ S1 a f1 => by
  subst e
  cases a with | cons x a =>
  cases a with | cons y a =>
  cases a
  exact ⟨_, _, rfl, m.nx _ ω1 _ H1 hk ((S1.setq x).setq y) f1 ((pin_set hi).trans (pin_set hj))⟩
theorem ws_seqP {P : Nat → Bool} {Γ : Ga} {D : Pe} {i j : Nat} {ta : TA} {u : TS} (h : WS P (tPar i j ta) Γ (D.to fun Γ' => WS P u Γ' D)) : WS P (tSeq (tPar i j ta) u) Γ D := ws_seq h
end G

/-! ### lists of things that stand still; isinstance of an object with a built-in; of an error with many classes; str(int) -/
namespace G
open PySem L2
section
variable {K : PySem.W.Frag} {P : Nat → Bool} {Γ : Ga} {D : Pe} {k : Gp → Ga → Prop} {te ta tb : TE} {tr : TA} {g : TG} {tt : TS}
theorem PRs.append {A : Hp} {xs ys : List V} {qs rs : List Per} (h : PRs A xs qs) (h' : PRs A ys rs) : PRs A (xs ++ ys) (qs ++ rs) := by
  refine ⟨by simp [h.1, h'.1], fun i x q a b => ?_⟩
  by_cases hi : i < xs.length
  · rw [List.getElem?_append_left hi] at a
    rw [List.getElem?_append_left (by rw [← h.1]; exact hi)] at b
    exact h.2 i x q a b
  · rw [List.getElem?_append_right (by omega)] at a
    rw [List.getElem?_append_right (by rw [← h.1]; omega), ← h.1] at b
    exact h'.2 _ x q a b
theorem bt_str : bootBuiltins "str" = some (.type "str") := by decide +kernel
/-- str(int) -/
def rStrI : List V → Hp → VK → Prop := fun xs H Q => ∃ i, xs = [.int i] ∧ i.natAbs.log2 < 1920 ∧ Q (.str (toString i)) H
theorem c_strI {X : Cx} : CallR X (.type "str") rStrI := call_str_int
theorem ck_strI {i : Int} (h : i.natAbs.log2 < 1920) (hk : k (dat (.str (toString i))) Γ) : CbK rStrI [.int i] k Γ := ck_of (q := dP (.str (toString i))) (fun A H vs s h' Q f => by
  cases h' with | cons a b =>
  cases b
  cases DR.int_inv a
  exact ⟨i, rfl, h, f _ (DR.str _)⟩) hk
end
end G

/-! ### a, *b = a list; a try whose body raises nothing -/
namespace GST
open PySem PySem.Spec PySem.W PyProof.Rows L2
section
variable {prog : Program} {w : World} {A : Around} {E : Value → Shared → Prop} {s : Shared}
end
section
variable {X : Cx}
end
end GST
namespace G
open PySem L2
end G

/-! ### texts -/
namespace G
open PySem L2
abbrev rIsDig : V → List V → Hp → VK → Prop := fun x xs H Q => ∃ a, x = .str a ∧ xs = [] ∧ True ∧ Q (.bl (Txt.isdigit a)) H
abbrev rIsAsc : V → List V → Hp → VK → Prop := fun x xs H Q => ∃ a, x = .str a ∧ xs = [] ∧ True ∧ Q (.bl (Txt.isascii a)) H
abbrev rStarts : V → List V → Hp → VK → Prop := fun x xs H Q => ∃ a b, x = .str a ∧ xs = [.str b] ∧ Q (.bl (Txt.startswith a b)) H
abbrev rSplitS : V → List V → Hp → VK → Prop := fun x xs H Q => ∃ a b, x = .str a ∧ xs = [.str b] ∧ (b.length == 0) = false ∧ a.length + 2 ≤ sizeLine ∧ rNewStrs (Txt.split a b) H Q
abbrev rJoinS (K : PySem.W.Frag) : V → List V → Hp → VK → Prop := fun x xs H Q => ∃ a p, ∃ ys : List Str, x = .str a ∧ xs = [.ref p] ∧ (SqL K H p (ys.map V.str) ∨ SqT K H p (ys.map V.str)) ∧ (ys.map (·.length)).sum + ys.length * a.length ≤ 16777216 ∧ Q (.str (Txt.join a ys)) H
def rIntT : List V → Hp → VK → Prop := fun xs H Q => ∃ a n, xs = [.str a] ∧ PySem.intText? a = some n ∧ a.length ≤ 640 ∧ Q (.int n) H
theorem c_intT {X : Cx} : CallR X (.type "int") rIntT := call_int_str
section
variable {K : PySem.W.Frag} {Γ : Ga} {k : Gp → Ga → Prop} {to te : TE}
theorem we_isDig (h : WQ to Γ fun q Γ1 => ∃ s, q = dP (.str s) ∧ k (dat (.bool (Txt.isdigit s))) Γ1) : WE (tM0 rIsDig to) Γ k := fun ω σ H S Q f => h ω σ H S _ fun x q Γ1 ω1 H1 ⟨s, e, hk⟩ S1 p f1 => by
  subst e
  cases DR.str_inv p
  exact ⟨⟨s, rfl⟩, s, rfl, rfl, trivial, f _ _ Γ1 ω1 H1 hk S1 (DR.bl _) f1⟩
theorem we_isAsc (h : WQ to Γ fun q Γ1 => ∃ s, q = dP (.str s) ∧ k (dat (.bool (Txt.isascii s))) Γ1) : WE (tM0 rIsAsc to) Γ k := fun ω σ H S Q f => h ω σ H S _ fun x q Γ1 ω1 H1 ⟨s, e, hk⟩ S1 p f1 => by
  subst e
  cases DR.str_inv p
  exact ⟨⟨s, rfl⟩, s, rfl, rfl, trivial, f _ _ Γ1 ω1 H1 hk S1 (DR.bl _) f1⟩
theorem we_starts (h : WQ to Γ fun q Γ1 => ∃ s, q = dP (.str s) ∧ WQ te Γ1 fun q' Γ2 => ∃ t, q' = dP (.str t) ∧ k (dat (.bool (Txt.startswith s t))) Γ2) : WE (tM1 rStarts to te) Γ k := fun ω σ H S Q f => h ω σ H S _ fun x q Γ1 ω1 H1 ⟨s, e, h1⟩ S1 p f1 => by
  subst e
  cases DR.str_inv p
  refine ⟨⟨s, rfl⟩, h1 ω1 σ H1 S1 _ fun y q' Γ2 ω2 H2 ⟨t, e, hk⟩ S2 p2 f2 => ?_⟩
  subst e
  cases DR.str_inv p2
  exact ⟨s, t, rfl, rfl, f _ _ Γ2 ω2 H2 hk S2 (DR.bl _) (f1.trans f2)⟩
theorem DRs.strs {A : Hp} : ∀ {ss : List Str}, DRs A (ss.map V.str) (ss.map PyData.str)
  | [] => .nil
  | s :: ss => .cons (.str s) DRs.strs
theorem DRs.strs_inv {A : Hp} : ∀ {ss : List Str} {vs : List V}, DRs A vs (ss.map PyData.str) → vs = ss.map V.str
  | [], _, h => by cases h; rfl
  | s :: ss, _, h => by
    cases h with | cons a b => cases a; rw [DRs.strs_inv b]; rfl
theorem we_split (h : WQ to Γ fun q Γ1 => ∃ s, q = dP (.str s) ∧ WQ te Γ1 fun q' Γ2 => ∃ t, q' = dP (.str t) ∧ (t.length == 0) = false ∧ s.length ≤ 1000000 ∧ k (own ((Txt.split s t).map .str)) Γ2) : WE (tM1 rSplitS to te) Γ k := fun ω σ H S Q f => h ω σ H S _ fun x q Γ1 ω1 H1 ⟨s, e, h1⟩ S1 p f1 => by
  subst e
  cases DR.str_inv p
  refine ⟨⟨s, rfl⟩, h1 ω1 σ H1 S1 _ fun y q' Γ2 ω2 H2 ⟨t, e, ht, hl, hk⟩ S2 p2 f2 => ?_⟩
  subst e
  cases DR.str_inv p2
  refine ⟨s, t, rfl, rfl, ht, by rw [sizeLine_eq]; omega, fun q hq => ?_⟩
  exact f _ _ Γ2 (paint ω2 q 2) _ hk (S2.new 2 hq) ⟨q, _, rfl, paint_at, DRs.strs⟩ ((f1.trans f2).trans (paint_fr hq))
theorem we_join (h : WQ to Γ fun q Γ1 => ∃ s, q = dP (.str s) ∧ WQ te Γ1 fun q' Γ2 => ∃ ss : List Str, q' = dP (.list (ss.map .str)) ∧ (ss.map (·.length)).sum + ss.length * s.length ≤ 16777216 ∧ k (dat (.str (Txt.join s ss))) Γ2) : WE (tM1 (rJoinS K) to te) Γ k := fun ω σ H S Q f => h ω σ H S _ fun x q Γ1 ω1 H1 ⟨s, e, h1⟩ S1 p f1 => by
  subst e
  cases DR.str_inv p
  refine ⟨⟨s, rfl⟩, h1 ω1 σ H1 S1 _ fun y q' Γ2 ω2 H2 ⟨ss, e, hl, hk⟩ S2 p2 f2 => ?_⟩
  subst e
  obtain ⟨a, xs, rfl, ha, hd⟩ := DR.lst_inv p2
  rw [DRs.strs_inv hd] at ha
  exact ⟨s, a, ss, rfl, rfl, .inl (SqL.of (vw_H ha)), hl, f _ _ Γ2 ω2 H2 hk S2 (DR.str _) (f1.trans f2)⟩
theorem ck_intT {s : Str} {n : Int} (h : PySem.intText? s = some n) (hl : s.length ≤ 640) (hk : k (dat (.int n)) Γ) : CbK rIntT [.str s] k Γ := ck_of (q := dP (.int n)) (fun A H vs _ h' Q f => by
  cases h' with | cons a b =>
  cases b
  cases DR.str_inv a
  exact ⟨s, n, rfl, h, hl, f _ (DR.int _)⟩) hk
theorem ck_lenS {s : Str} (hl : s.length ≤ 1000000) (hk : k (dat (.int s.length)) Γ) : CbK (rLenA K) [.str s] k Γ := ck_of (q := dP (.int s.length)) (fun A H vs _ h' Q f => by
  cases h' with | cons a b =>
  cases b
  cases DR.str_inv a
  exact ⟨_, s.length, rfl, ⟨Nat.le_trans hl (by decide), rfl⟩, f _ (DR.int _)⟩) hk
end
/-- a number among the module's names -/
theorem pe_globI {X : Cx} {x : Str} {i : Int} {pos : Pos} (hg : Gl X x) (hm : ∃ t, X.mg x = some (.int i t)) (hd : (x == ("__debug__" : Str)) = false := by decide) : PE X (.Name x pos) (tC (.int i)) := by
  obtain ⟨t, h⟩ := hm
  exact pe_glob (v := .int i) hg h ⟨t, rfl⟩ hd
end G

namespace G
open PySem L2
local macro_rules | `(tactic| walk_at "g1") => `(tactic| first
  | (with_reducible show WE _ _ _; with_reducible first | refine we_var (by with_unfolding_all exact rfl) ?_ | (show WE (tOp _ _ _) _ _; first | refine we_ixS (by with_unfolding_all exact rfl) ?_ | refine we_ixScr (by with_unfolding_all exact rfl) ?_ | refine we_inS (by with_unfolding_all exact rfl) ?_ | refine we_notInS (by with_unfolding_all exact rfl) ?_ | refine we_eqS (by with_unfolding_all exact rfl) ?_ | refine we_neS (by with_unfolding_all exact rfl) ?_ | refine we_opK ?_) | (show WE (tCB _ _) _ _; first | refine we_lenS' (by with_unfolding_all exact rfl) ?_ | refine we_lenScr (by with_unfolding_all exact rfl) ?_ | refine we_cbK ?_) | refine we_int ?_ | refine we_bl ?_ | refine we_non ?_ | refine we_str ?_ | refine we_neg ?_ | refine we_not ?_ | refine we_and ?_ | refine we_or ?_ | refine we_if ?_ | refine we_tup ?_ | refine we_lst ?_ | refine we_call ?_ | refine we_mt (by with_unfolding_all exact rfl) ?_)
  | (with_reducible show WS _ _ _ _; with_reducible first | refine ws_seqA ?_ | refine ws_seqD ?_ | refine ws_asg (by with_unfolding_all exact rfl) ?_ | refine ws_asgG ?_ | refine ws_if ?_ | refine ws_ret ?_ | refine ws_drop ?_ | refine ws_next ?_ | refine ws_retN ?_)
  | (with_reducible show WT _ _ _; with_reducible first | refine wt_test ?_ | refine wt_B ?_ | refine wt_not ?_ | refine wt_and ?_ | refine wt_or ?_ | refine wt_yes ?_)
  | (with_reducible show WA _ _ _; with_reducible first | refine wa_nil ?_ | refine wa_cons (wq_of (we_var (by with_unfolding_all exact rfl) ?_)) | refine wa_slotU (by with_unfolding_all exact rfl) ?_ | refine wa_cons ?_)
  | (with_reducible show OpK _ _ _ _ _; with_reducible first | refine ok_plusI ?_ | refine ok_sub ?_ | refine ok_lt ?_ | refine ok_le ?_ | refine ok_gt ?_ | refine ok_ge ?_ | refine ok_eqI ?_ | refine ok_neI ?_ | refine ok_mod (by first | assumption | decide | omega) ?_ | refine ok_ixL (by with_unfolding_all exact rfl) ?_)
  | (with_reducible show CbK _ _ _ _; with_reducible first | refine ck_lenL ?_ | refine ck_lenT ?_ | refine ck_int ?_ | refine ck_intB ?_ | refine ck_max ?_ | refine ck_min ?_ | refine ck_list ?_)
  | with_reducible refine wq_of ?_
  | (with_reducible show WG _ _ _ _ _; with_reducible first | refine wg_name (by with_unfolding_all exact rfl) ?_ | refine wg_tup (by with_unfolding_all exact rfl) ?_ | refine wg_set (by with_unfolding_all exact rfl) ?_)
  | (with_reducible show WGs _ _ _ _ _; with_reducible first | refine wgs_cons ?_ | refine wgs_nil ?_)
  | with_reducible refine iteT ?_
  | with_reducible refine iteF ?_
  | with_reducible refine ⟨_, frz_per, ?_⟩
  | with_reducible refine ⟨_, frz_own, ?_⟩
  | refine ⟨_, rfl, ?_⟩
  | refine ⟨_, argD1, ?_⟩
  | refine ⟨_, argD2, ?_⟩
  | refine ⟨_, argD0, ?_⟩
  | refine ⟨_, argD3, ?_⟩
  | refine ⟨_, argD4, ?_⟩
  | refine ⟨_, _, rfl, rfl, rfl, ?_⟩
  | refine ⟨_, _, _, rfl, rfl, rfl, ?_⟩
  | refine ⟨(by simp only [List.length_cons, List.length_nil]; decide), ?_⟩
  | refine ⟨rfl, nd1, ?_⟩
  | refine ⟨rfl, nd0, ?_⟩)
local macro_rules | `(tactic| walk_at "go") => `(tactic| repeat walk_at "g1")
local macro_rules | `(tactic| walk_at "g2") => `(tactic| first
  | (with_reducible show WE _ _ _; with_reducible first | refine we_var (by with_unfolding_all exact rfl) ?_ | (show WE (tOp _ _ _) _ _; first | refine we_notN ?_ | refine we_ixS (by with_unfolding_all exact rfl) ?_ | refine we_ixScr (by with_unfolding_all exact rfl) ?_ | refine we_inS (by with_unfolding_all exact rfl) ?_ | refine we_notInS (by with_unfolding_all exact rfl) ?_ | refine we_eqS (by with_unfolding_all exact rfl) ?_ | refine we_neS (by with_unfolding_all exact rfl) ?_ | refine we_opK ?_) | (show WE (tCB _ _) _ _; first | refine we_isInt ?_ | refine we_isBl ?_ | refine we_isLst ?_ | refine we_isTup ?_ | refine we_lenO (by with_unfolding_all exact rfl) ?_ | refine we_lenS' (by with_unfolding_all exact rfl) ?_ | refine we_lenScr (by with_unfolding_all exact rfl) ?_ | refine we_cbK ?_) | refine we_chain ?_ | refine we_slice ?_ | refine we_int ?_ | refine we_bl ?_ | refine we_non ?_ | refine we_str ?_ | refine we_neg ?_ | refine we_not ?_ | refine we_and ?_ | refine we_or ?_ | refine we_if ?_ | refine we_tup ?_ | refine we_lst ?_ | refine we_call ?_ | refine we_mt (by with_unfolding_all exact rfl) ?_)
  | (with_reducible show WS _ _ _ _; with_reducible first | refine ws_seqA ?_ | refine ws_seqD ?_ | refine ws_asg (by with_unfolding_all exact rfl) ?_ | refine ws_asgG ?_ | refine ws_if ?_ | refine ws_ret ?_ | refine ws_drop ?_ | refine ws_next ?_ | refine ws_retN ?_)
  | (with_reducible show WT _ _ _; with_reducible first | refine wt_test ?_ | refine wt_B ?_ | refine wt_not ?_ | refine wt_and ?_ | refine wt_or ?_ | refine wt_yes ?_)
  | (with_reducible show WA _ _ _; with_reducible first | refine wa_nil ?_ | refine wa_cons (wq_of (we_var (by with_unfolding_all exact rfl) ?_)) | refine wa_slotU (by with_unfolding_all exact rfl) ?_ | refine wa_cons ?_)
  | (with_reducible show OpK _ _ _ _ _; with_reducible first | refine ok_isB ?_ | refine ok_notB ?_ | refine ok_plusI ?_ | refine ok_sub ?_ | refine ok_lt ?_ | refine ok_le ?_ | refine ok_gt ?_ | refine ok_ge ?_ | refine ok_eqI ?_ | refine ok_neI ?_ | refine ok_mod (by first | assumption | decide | omega) ?_ | refine ok_ixL (by with_unfolding_all exact rfl) ?_)
  | (with_reducible show CbK _ _ _ _; with_reducible first | refine ck_lenL ?_ | refine ck_lenT ?_ | refine ck_int ?_ | refine ck_intB ?_ | refine ck_max ?_ | refine ck_min ?_ | refine ck_list ?_)
  | with_reducible refine wq_of ?_
  | (with_reducible show WG _ _ _ _ _; with_reducible first | refine wg_name (by with_unfolding_all exact rfl) ?_ | refine wg_tup (by with_unfolding_all exact rfl) ?_ | refine wg_set (by with_unfolding_all exact rfl) ?_)
  | (with_reducible show WGs _ _ _ _ _; with_reducible first | refine wgs_cons ?_ | refine wgs_nil ?_)
  | (with_reducible show WO _ _ _; with_reducible first | refine wo_some ?_ | refine wo_none ?_)
  | refine ⟨_, argD5, ?_⟩
  | refine ⟨_, argD6, ?_⟩
  | refine ⟨_, argD7, ?_⟩
  | refine ⟨_, argD9, ?_⟩
  | with_reducible refine iteT ?_
  | with_reducible refine iteF ?_
  | with_reducible refine ⟨_, frz_per, ?_⟩
  | with_reducible refine ⟨_, frz_own, ?_⟩
  | refine ⟨_, rfl, ?_⟩
  | refine ⟨_, argD1, ?_⟩
  | refine ⟨_, argD2, ?_⟩
  | refine ⟨_, argD0, ?_⟩
  | refine ⟨_, argD3, ?_⟩
  | refine ⟨_, argD4, ?_⟩
  | refine ⟨_, _, rfl, rfl, rfl, ?_⟩
  | refine ⟨_, _, _, rfl, rfl, rfl, ?_⟩
  | refine ⟨(by simp only [List.length_cons, List.length_nil]; decide), ?_⟩
  | refine ⟨rfl, nd1, ?_⟩
  | refine ⟨rfl, nd0, ?_⟩)
abbrev t_law_pick_0 (K : PySem.W.Frag) : TS :=
  (tSeq (tAsg (tOp (rModI) (tCB (rInt1) (tCons (tOp (rIx K) (tVar 0) (tC (.int 0))) tNil)) (tVar 1)) (gName 2))
    (tSeq (tAsg (tOp (rDivI) (tOp (rIx K) (tVar 0) (tC (.int 0))) (tVar 1)) (gSub (tVar 0) (tC (.int 0)) rSetL))
    (tRet (tVar 2))))
abbrev t_law_pick_1 (K : PySem.W.Frag) : TS :=
  (tSeq (tAsg (tOp (rModI) (tCB (rInt1) (tCons (tOp (rPlus K) (tOp (rMulI) (tOp (rMulI) (tVar 4) (tVar 4)) (tC (.int 31))) (tVar 4)) tNil)) (tOp (rIx K) (tLst (tCons (tC (.int 2147483579)) (tCons (tC (.int 2147483563)) (tCons (tC (.int 2147483549)) (tCons (tC (.int 2147483543)) tNil))))) (tOp (rModI) (tCB (rInt1) (tCons (tVar 3) tNil)) (tC (.int 4))))) (gName 4))
    (tRet (tOp (rModI) (tCB (rInt1) (tCons (tOp (rDivI) (tVar 4) (tC (.int 32))) tNil)) (tVar 1))))
abbrev t_law_pick_2 (K : PySem.W.Frag) : TS :=
  (tSeq (tAsg (tOp (rModI) (tCB (rInt1) (tCons (tOp (rPlus K) (tOp (rPlus K) (tOp (rMulI) (tVar 4) (tVar 4)) (tOp (rDivI) (tOp (rIx K) (tVar 0) (tC (.int 1))) (tC (.int 2147483629)))) (tOp (rMulI) (tC (.int 104729)) (tVar 3))) tNil)) (tC (.int 2147483587))) (gName 4))
    (t_law_pick_1 K))
abbrev t_law_pick_3 (K : PySem.W.Frag) : TS :=
  (tSeq (tAsg (tOp (rModI) (tCB (rInt1) (tCons (tOp (rPlus K) (tOp (rPlus K) (tOp (rIx K) (tVar 0) (tC (.int 1))) (tOp (rMulI) (tVar 3) (tC (.int 1299709)))) (tOp (rMulI) (tOp (rMulI) (tVar 3) (tVar 3)) (tC (.int 15485863)))) tNil)) (tC (.int 2147483629))) (gName 4))
    (t_law_pick_2 K))
abbrev t_law_pick_4 (K : PySem.W.Frag) : TS :=
  (tSeq (tAsg (tOp (rPlus K) (tOp (rIx K) (tVar 0) (tC (.int 2))) (tC (.int 1))) (gSub (tVar 0) (tC (.int 2)) rSetL))
    (tSeq (tAsg (tOp (rIx K) (tVar 0) (tC (.int 2))) (gName 3))
    (t_law_pick_3 K)))
def t_law_pick (K : PySem.W.Frag) : TS :=
  (tSeq (tIfS (tTest (tOp (rGtI) (tOp (rIx K) (tVar 0) (tC (.int 0))) (tC (.int 0)))) (t_law_pick_0 K) tNext)
    (t_law_pick_4 K))
abbrev N_law_pick : List Str := ["urn", "many", "found", "turn", "mixed"]
abbrev F_law_pick : Fw := fun gs kk xx => ∃ m many, gs = [urn m, dat (.int many)] ∧ 1 ≤ m ∧ 0 < many ∧ many < 2 ^ 100 ∧ ∀ r : Int, 0 ≤ r → r < many → kk (dat (.int r)) [some (urn (m - 1)), none]
abbrev sp_law_pick (K : PySem.W.Frag) : Sp := SpG 2 F_law_pick
theorem pure_law_pick {K : PySem.W.Frag} {vs : List V} {H : Hp} {Q : VK} {E : XK} (h : sp_law_pick K vs H Q E) : t_law_pick K { nx := fun _ H' => Q .non H', rt := Q } (L2.start N_law_pick vs) H := by
  refine body_ok (fun i => i == 0) ?_ h
  rintro gs kk xx ⟨m, many, rfl, hm, h0, hM, hk⟩ -
  refine ws_urn (i := 0) rfl fun a b c c0 c1 => ?_
  unfold t_law_pick
  refine ws_seq ?_
  walk_at "go"
  refine ite_dec (fun ha => ?_) (fun ha => ?_)
  · walk_at "go"
    refine ok_div (cdiv_of h0 hM (by decide) (by decide)) ?_
    walk_at "go"
    exact ⟨_, _, Ent.refl, les_some (urn_mk c0 (by omega)) (les_none les_nil), hk _ (Int.emod_nonneg _ (by omega)) (Int.emod_lt_of_pos _ h0)⟩
  · walk_at "go"
    refine ok_mul (cmul_l (by omega) (by omega)) ?_
    walk_at "go"
    refine ok_mul (cmul_l (by omega) (by omega)) ?_
    walk_at "go"
    refine ok_mul (cmul_r (by decide) (by decide)) ?_
    walk_at "go"
    generalize hx : (b + (c + 1) * 1299709 + (c + 1) * (c + 1) * 15485863) % 2147483629 = x
    have x0 : 0 ≤ x := by rw [← hx]; exact Int.emod_nonneg _ (by decide)
    have x1 : x < 2147483629 := by rw [← hx]; exact Int.emod_lt_of_pos _ (by decide)
    refine ok_mul (cmul_l (by omega) (by omega)) ?_
    walk_at "go"
    refine ok_div (cdiv_of (b := 32) (by decide) (by decide) (by decide) (by decide)) ?_
    walk_at "go"
    refine ok_mul (cmul_l (by decide) (by decide)) ?_
    walk_at "go"
    generalize hy : (x * x + b / 2147483629 + 104729 * (c + 1)) % 2147483587 = y
    have y0 : 0 ≤ y := by rw [← hy]; exact Int.emod_nonneg _ (by decide)
    have y1 : y < 2147483587 := by rw [← hy]; exact Int.emod_lt_of_pos _ (by decide)
    refine ok_mul (cmul_l (by omega) (by omega)) ?_
    walk_at "go"
    refine ok_mul (cmul_r (by decide) (by decide)) ?_
    walk_at "go"
    obtain ⟨p, hp, hp0⟩ : ∃ p : Int, atI [PyData.int 2147483579, PyData.int 2147483563, PyData.int 2147483549, PyData.int 2147483543] ((c + 1) % 4) = some (.int p) ∧ 0 < p := by
      have h4 : (c + 1) % 4 = 0 ∨ (c + 1) % 4 = 1 ∨ (c + 1) % 4 = 2 ∨ (c + 1) % 4 = 3 := by omega
      rcases h4 with e | e | e | e <;> rw [e]
      · exact ⟨2147483579, rfl, by decide⟩
      · exact ⟨2147483563, rfl, by decide⟩
      · exact ⟨2147483549, rfl, by decide⟩
      · exact ⟨2147483543, rfl, by decide⟩
    refine ok_ixL hp ?_
    walk_at "go"
    refine ok_div (cdiv_of (b := 32) (by decide) (by decide) (by decide) (by decide)) ?_
    walk_at "go"
    exact ⟨_, _, Ent.refl, les_some (urn_mk (m := m - 1) (by omega) (by omega)) (les_none les_nil), hk _ (Int.emod_nonneg _ (by omega)) (Int.emod_lt_of_pos _ h0)⟩
end G

namespace G
open PySem L2
local macro_rules | `(tactic| walk_at "g1") => `(tactic| first
  | (with_reducible show WE _ _ _; with_reducible first | refine we_var (by with_unfolding_all exact rfl) ?_ | (show WE (tOp _ _ _) _ _; first | refine we_ixS (by with_unfolding_all exact rfl) ?_ | refine we_ixScr (by with_unfolding_all exact rfl) ?_ | refine we_inS (by with_unfolding_all exact rfl) ?_ | refine we_notInS (by with_unfolding_all exact rfl) ?_ | refine we_eqS (by with_unfolding_all exact rfl) ?_ | refine we_neS (by with_unfolding_all exact rfl) ?_ | refine we_opK ?_) | (show WE (tCB _ _) _ _; first | refine we_lenS' (by with_unfolding_all exact rfl) ?_ | refine we_lenScr (by with_unfolding_all exact rfl) ?_ | refine we_cbK ?_) | refine we_int ?_ | refine we_bl ?_ | refine we_non ?_ | refine we_str ?_ | refine we_neg ?_ | refine we_not ?_ | refine we_and ?_ | refine we_or ?_ | refine we_if ?_ | refine we_tup ?_ | refine we_lst ?_ | refine we_call ?_ | refine we_mt (by with_unfolding_all exact rfl) ?_)
  | (with_reducible show WS _ _ _ _; with_reducible first | refine ws_seqA ?_ | refine ws_seqD ?_ | refine ws_asg (by with_unfolding_all exact rfl) ?_ | refine ws_asgG ?_ | refine ws_if ?_ | refine ws_ret ?_ | refine ws_drop ?_ | refine ws_next ?_ | refine ws_retN ?_)
  | (with_reducible show WT _ _ _; with_reducible first | refine wt_test ?_ | refine wt_B ?_ | refine wt_not ?_ | refine wt_and ?_ | refine wt_or ?_ | refine wt_yes ?_)
  | (with_reducible show WA _ _ _; with_reducible first | refine wa_nil ?_ | refine wa_cons (wq_of (we_var (by with_unfolding_all exact rfl) ?_)) | refine wa_slotU (by with_unfolding_all exact rfl) ?_ | refine wa_cons ?_)
  | (with_reducible show OpK _ _ _ _ _; with_reducible first | refine ok_plusI ?_ | refine ok_sub ?_ | refine ok_lt ?_ | refine ok_le ?_ | refine ok_gt ?_ | refine ok_ge ?_ | refine ok_eqI ?_ | refine ok_neI ?_ | refine ok_mod (by first | assumption | decide | omega) ?_ | refine ok_ixL (by with_unfolding_all exact rfl) ?_)
  | (with_reducible show CbK _ _ _ _; with_reducible first | refine ck_lenL ?_ | refine ck_lenT ?_ | refine ck_int ?_ | refine ck_intB ?_ | refine ck_max ?_ | refine ck_min ?_ | refine ck_list ?_)
  | with_reducible refine wq_of ?_
  | (with_reducible show WG _ _ _ _ _; with_reducible first | refine wg_name (by with_unfolding_all exact rfl) ?_ | refine wg_tup (by with_unfolding_all exact rfl) ?_ | refine wg_set (by with_unfolding_all exact rfl) ?_)
  | (with_reducible show WGs _ _ _ _ _; with_reducible first | refine wgs_cons ?_ | refine wgs_nil ?_)
  | with_reducible refine iteT ?_
  | with_reducible refine iteF ?_
  | with_reducible refine ⟨_, frz_per, ?_⟩
  | with_reducible refine ⟨_, frz_own, ?_⟩
  | refine ⟨_, rfl, ?_⟩
  | refine ⟨_, argD1, ?_⟩
  | refine ⟨_, argD2, ?_⟩
  | refine ⟨_, argD0, ?_⟩
  | refine ⟨_, argD3, ?_⟩
  | refine ⟨_, argD4, ?_⟩
  | refine ⟨_, _, rfl, rfl, rfl, ?_⟩
  | refine ⟨_, _, _, rfl, rfl, rfl, ?_⟩
  | refine ⟨(by simp only [List.length_cons, List.length_nil]; decide), ?_⟩
  | refine ⟨rfl, nd1, ?_⟩
  | refine ⟨rfl, nd0, ?_⟩)
local macro_rules | `(tactic| walk_at "go") => `(tactic| repeat walk_at "g1")
local macro_rules | `(tactic| walk_at "g2") => `(tactic| first
  | (with_reducible show WE _ _ _; with_reducible first | refine we_var (by with_unfolding_all exact rfl) ?_ | (show WE (tOp _ _ _) _ _; first | refine we_notN ?_ | refine we_ixS (by with_unfolding_all exact rfl) ?_ | refine we_ixScr (by with_unfolding_all exact rfl) ?_ | refine we_inS (by with_unfolding_all exact rfl) ?_ | refine we_notInS (by with_unfolding_all exact rfl) ?_ | refine we_eqS (by with_unfolding_all exact rfl) ?_ | refine we_neS (by with_unfolding_all exact rfl) ?_ | refine we_opK ?_) | (show WE (tCB _ _) _ _; first | refine we_isInt ?_ | refine we_isBl ?_ | refine we_isLst ?_ | refine we_isTup ?_ | refine we_lenO (by with_unfolding_all exact rfl) ?_ | refine we_lenS' (by with_unfolding_all exact rfl) ?_ | refine we_lenScr (by with_unfolding_all exact rfl) ?_ | refine we_cbK ?_) | refine we_chain ?_ | refine we_slice ?_ | refine we_int ?_ | refine we_bl ?_ | refine we_non ?_ | refine we_str ?_ | refine we_neg ?_ | refine we_not ?_ | refine we_and ?_ | refine we_or ?_ | refine we_if ?_ | refine we_tup ?_ | refine we_lst ?_ | refine we_call ?_ | refine we_mt (by with_unfolding_all exact rfl) ?_)
  | (with_reducible show WS _ _ _ _; with_reducible first | refine ws_seqA ?_ | refine ws_seqD ?_ | refine ws_asg (by with_unfolding_all exact rfl) ?_ | refine ws_asgG ?_ | refine ws_if ?_ | refine ws_ret ?_ | refine ws_drop ?_ | refine ws_next ?_ | refine ws_retN ?_)
  | (with_reducible show WT _ _ _; with_reducible first | refine wt_test ?_ | refine wt_B ?_ | refine wt_not ?_ | refine wt_and ?_ | refine wt_or ?_ | refine wt_yes ?_)
  | (with_reducible show WA _ _ _; with_reducible first | refine wa_nil ?_ | refine wa_cons (wq_of (we_var (by with_unfolding_all exact rfl) ?_)) | refine wa_slotU (by with_unfolding_all exact rfl) ?_ | refine wa_cons ?_)
  | (with_reducible show OpK _ _ _ _ _; with_reducible first | refine ok_isB ?_ | refine ok_notB ?_ | refine ok_plusI ?_ | refine ok_sub ?_ | refine ok_lt ?_ | refine ok_le ?_ | refine ok_gt ?_ | refine ok_ge ?_ | refine ok_eqI ?_ | refine ok_neI ?_ | refine ok_mod (by first | assumption | decide | omega) ?_ | refine ok_ixL (by with_unfolding_all exact rfl) ?_)
  | (with_reducible show CbK _ _ _ _; with_reducible first | refine ck_lenL ?_ | refine ck_lenT ?_ | refine ck_int ?_ | refine ck_intB ?_ | refine ck_max ?_ | refine ck_min ?_ | refine ck_list ?_)
  | with_reducible refine wq_of ?_
  | (with_reducible show WG _ _ _ _ _; with_reducible first | refine wg_name (by with_unfolding_all exact rfl) ?_ | refine wg_tup (by with_unfolding_all exact rfl) ?_ | refine wg_set (by with_unfolding_all exact rfl) ?_)
  | (with_reducible show WGs _ _ _ _ _; with_reducible first | refine wgs_cons ?_ | refine wgs_nil ?_)
  | (with_reducible show WO _ _ _; with_reducible first | refine wo_some ?_ | refine wo_none ?_)
  | refine ⟨_, argD5, ?_⟩
  | refine ⟨_, argD6, ?_⟩
  | refine ⟨_, argD7, ?_⟩
  | refine ⟨_, argD9, ?_⟩
  | with_reducible refine iteT ?_
  | with_reducible refine iteF ?_
  | with_reducible refine ⟨_, frz_per, ?_⟩
  | with_reducible refine ⟨_, frz_own, ?_⟩
  | refine ⟨_, rfl, ?_⟩
  | refine ⟨_, argD1, ?_⟩
  | refine ⟨_, argD2, ?_⟩
  | refine ⟨_, argD0, ?_⟩
  | refine ⟨_, argD3, ?_⟩
  | refine ⟨_, argD4, ?_⟩
  | refine ⟨_, _, rfl, rfl, rfl, ?_⟩
  | refine ⟨_, _, _, rfl, rfl, rfl, ?_⟩
  | refine ⟨(by simp only [List.length_cons, List.length_nil]; decide), ?_⟩
  | refine ⟨rfl, nd1, ?_⟩
  | refine ⟨rfl, nd0, ?_⟩)
abbrev t_law_urn_0 (K : PySem.W.Frag) : TS :=
  (tRet (tLst (tCons (tCB (rMax2) (tCons (tC (.int 0)) (tCons (tOp (rSubI) (tVar 2) (tOp (rPowI) (tC (.int 10)) (tC (.int 18)))) tNil))) (tCons (tOp (rPlus K) (tOp (rModI) (tCB (rInt1) (tCons (tVar 2) tNil)) (tOp (rPlus K) (tOp (rPowI) (tC (.int 10)) (tC (.int 30))) (tC (.int 57)))) (tVar 1)) (tCons (tC (.int 0)) tNil)))))
abbrev t_law_urn_1 (K : PySem.W.Frag) : TS :=
  (tSeq (tIfS (tTest (tOp (rLtI) (tVar 1) (tCB (rLenA K) (tCons (tVar 0) tNil)))) (tAsg (tOp (rIx K) (tVar 0) (tVar 1)) (gName 2)) tNext)
    (t_law_urn_0 K))
def t_law_urn (K : PySem.W.Frag) : TS :=
  (tSeq (tAsg (tOp (rPlus K) (tOp (rMulI) (tC (.int 40)) (tVar 1)) (tC (.int 3))) (gName 2))
    (t_law_urn_1 K))
abbrev N_law_urn : List Str := ["script", "k", "cell"]
def big : Nat := 1000000000000000
abbrev F_law_urn (K : PySem.W.Frag) : Fw := fun gs kk xx => ∃ ns j, gs = [per (scrP K ns), dat (.int j)] ∧ 0 ≤ j ∧ ns.length ≤ 63 ∧ kk (urn big) [none, none]
abbrev sp_law_urn (K : PySem.W.Frag) : Sp := SpG 2 (F_law_urn K)
theorem pure_law_urn {K : PySem.W.Frag} {vs : List V} {H : Hp} {Q : VK} {E : XK} (h : sp_law_urn K vs H Q E) : t_law_urn K { nx := fun _ H' => Q .non H', rt := Q } (L2.start N_law_urn vs) H := by
  refine body_ok (fun _ => false) ?_ h
  rintro gs kk xx ⟨ns, j, rfl, hj, hn, hk⟩ -
  unfold t_law_urn
  walk_at "go"
  refine ok_mul (cmul_l (by decide) (by decide)) ?_
  walk_at "go"
  refine ws_seq ?_
  walk_at "go"
  have fin : ∀ (c : Int) (Γ : Ga), Γ[0]? = some (some (per (scrP K ns))) → Γ[1]? = some (some (dat (.int j))) → Γ[2]? = some (some (dat (.int c))) → Γ.length = 3 → WS (fun _ => false) (tRet
          (tLst
            (tCons
              (tCB rMax2
                (tCons (tC (V.int 0))
                  (tCons (tOp rSubI (tVar 2) (tOp rPowI (tC (V.int 10)) (tC (V.int 18)))) tNil)))
              (tCons
                (tOp (rPlus K)
                  (tOp rModI (tCB rInt1 (tCons (tVar 2) tNil))
                    (tOp (rPlus K) (tOp rPowI (tC (V.int 10)) (tC (V.int 30))) (tC (V.int 57))))
                  (tVar 1))
                (tCons (tC (V.int 0)) tNil))))) Γ ⟨fun Γ => ∃ Γp, Les (mask (fun _ => false) 2 Γ) Γp ∧ kk (dat .none) Γp, fun g Γ => ∃ g' Γp, Ent g g' ∧ Les (mask (fun _ => false) 2 Γ) Γp ∧ kk g' Γp, fun _ => False, fun _ => False⟩ := by
    intro c Γ h0 h1 h2 hl
    match Γ, h0, h1, h2, hl with
    | [o0, o1, o2], h0, h1, h2, _ =>
      cases h0
      cases h1
      cases h2
      walk_at "go"
      refine ok_pow (cpow_of (by decide) (by decide) (by decide)) ?_
      walk_at "go"
      refine ok_pow (cpow_of (by decide) (by decide) (by decide)) ?_
      walk_at "go"
      exact ⟨_, _, urn_mk (Int.le_refl _) (m := big) (by unfold big; omega), les_none (les_none les_nil), hk⟩
  refine ite_dec (fun h => ?_) (fun h => ?_)
  · walk_at "go"
    obtain ⟨i, rfl⟩ : ∃ i : Nat, j = (i : Int) := ⟨j.toNat, by omega⟩
    have hi : i < ns.length := by omega
    refine ⟨_, _, rfl, at_nat i rfl (List.getElem?_eq_getElem hi), ?_⟩
    exact fin _ _ rfl rfl rfl rfl
  · walk_at "g1"
    exact fin _ _ rfl rfl rfl rfl
end G

/-! ### the jar: what is drawn from -/
namespace G
open PySem L2
section
variable {K : PySem.W.Frag} {Γ : Ga} {k : Gp → Ga → Prop}
end
def jar (m : Nat) : Gp := exG fun x : Int × Int × Int => whenG ((0 ≤ x.2.2 ∧ x.2.2 + (m : Int) ≤ 2 ^ 60) ∧ 0 ≤ x.2.1 ∧ x.2.1 < 2 ^ 90) (own [.int x.1, .int x.2.1, .int x.2.2])
theorem wa_slotJ {Γ : Ga} {k : List Arg → Ga → Prop} {ta : TA} {i m : Nat} (h : Γ[i]? = some (some (jar m))) (hk : WA ta Γ fun as Γ1 => k (.s i :: as) Γ1) : WA (tCons (tVar i) ta) Γ k := wa_slot ⟨_, h⟩ hk
end G

namespace G
open PySem L2
local macro_rules | `(tactic| walk_at "g1") => `(tactic| first
  | (with_reducible show WE _ _ _; with_reducible first | refine we_var (by with_unfolding_all exact rfl) ?_ | (show WE (tOp _ _ _) _ _; first | refine we_ixS (by with_unfolding_all exact rfl) ?_ | refine we_ixScr (by with_unfolding_all exact rfl) ?_ | refine we_inS (by with_unfolding_all exact rfl) ?_ | refine we_notInS (by with_unfolding_all exact rfl) ?_ | refine we_eqS (by with_unfolding_all exact rfl) ?_ | refine we_neS (by with_unfolding_all exact rfl) ?_ | refine we_opK ?_) | (show WE (tCB _ _) _ _; first | refine we_lenS' (by with_unfolding_all exact rfl) ?_ | refine we_lenScr (by with_unfolding_all exact rfl) ?_ | refine we_cbK ?_) | refine we_int ?_ | refine we_bl ?_ | refine we_non ?_ | refine we_str ?_ | refine we_neg ?_ | refine we_not ?_ | refine we_and ?_ | refine we_or ?_ | refine we_if ?_ | refine we_tup ?_ | refine we_lst ?_ | refine we_call ?_ | refine we_mt (by with_unfolding_all exact rfl) ?_)
  | (with_reducible show WS _ _ _ _; with_reducible first | refine ws_seqA ?_ | refine ws_seqD ?_ | refine ws_asg (by with_unfolding_all exact rfl) ?_ | refine ws_asgG ?_ | refine ws_if ?_ | refine ws_ret ?_ | refine ws_drop ?_ | refine ws_next ?_ | refine ws_retN ?_)
  | (with_reducible show WT _ _ _; with_reducible first | refine wt_test ?_ | refine wt_B ?_ | refine wt_not ?_ | refine wt_and ?_ | refine wt_or ?_ | refine wt_yes ?_)
  | (with_reducible show WA _ _ _; with_reducible first | refine wa_nil ?_ | refine wa_cons (wq_of (we_var (by with_unfolding_all exact rfl) ?_)) | refine wa_slotU (by with_unfolding_all exact rfl) ?_ | refine wa_cons ?_)
  | (with_reducible show OpK _ _ _ _ _; with_reducible first | refine ok_plusI ?_ | refine ok_sub ?_ | refine ok_lt ?_ | refine ok_le ?_ | refine ok_gt ?_ | refine ok_ge ?_ | refine ok_eqI ?_ | refine ok_neI ?_ | refine ok_mod (by first | assumption | decide | omega) ?_ | refine ok_ixL (by with_unfolding_all exact rfl) ?_)
  | (with_reducible show CbK _ _ _ _; with_reducible first | refine ck_lenL ?_ | refine ck_lenT ?_ | refine ck_int ?_ | refine ck_intB ?_ | refine ck_max ?_ | refine ck_min ?_ | refine ck_list ?_)
  | with_reducible refine wq_of ?_
  | (with_reducible show WG _ _ _ _ _; with_reducible first | refine wg_name (by with_unfolding_all exact rfl) ?_ | refine wg_tup (by with_unfolding_all exact rfl) ?_ | refine wg_set (by with_unfolding_all exact rfl) ?_)
  | (with_reducible show WGs _ _ _ _ _; with_reducible first | refine wgs_cons ?_ | refine wgs_nil ?_)
  | with_reducible refine iteT ?_
  | with_reducible refine iteF ?_
  | with_reducible refine ⟨_, frz_per, ?_⟩
  | with_reducible refine ⟨_, frz_own, ?_⟩
  | refine ⟨_, rfl, ?_⟩
  | refine ⟨_, argD1, ?_⟩
  | refine ⟨_, argD2, ?_⟩
  | refine ⟨_, argD0, ?_⟩
  | refine ⟨_, argD3, ?_⟩
  | refine ⟨_, argD4, ?_⟩
  | refine ⟨_, _, rfl, rfl, rfl, ?_⟩
  | refine ⟨_, _, _, rfl, rfl, rfl, ?_⟩
  | refine ⟨(by simp only [List.length_cons, List.length_nil]; decide), ?_⟩
  | refine ⟨rfl, nd1, ?_⟩
  | refine ⟨rfl, nd0, ?_⟩)
local macro_rules | `(tactic| walk_at "go") => `(tactic| repeat walk_at "g1")
local macro_rules | `(tactic| walk_at "g2") => `(tactic| first
  | (with_reducible show WE _ _ _; with_reducible first | refine we_var (by with_unfolding_all exact rfl) ?_ | (show WE (tOp _ _ _) _ _; first | refine we_notN ?_ | refine we_ixS (by with_unfolding_all exact rfl) ?_ | refine we_ixScr (by with_unfolding_all exact rfl) ?_ | refine we_inS (by with_unfolding_all exact rfl) ?_ | refine we_notInS (by with_unfolding_all exact rfl) ?_ | refine we_eqS (by with_unfolding_all exact rfl) ?_ | refine we_neS (by with_unfolding_all exact rfl) ?_ | refine we_opK ?_) | (show WE (tCB _ _) _ _; first | refine we_isInt ?_ | refine we_isBl ?_ | refine we_isLst ?_ | refine we_isTup ?_ | refine we_lenO (by with_unfolding_all exact rfl) ?_ | refine we_lenS' (by with_unfolding_all exact rfl) ?_ | refine we_lenScr (by with_unfolding_all exact rfl) ?_ | refine we_cbK ?_) | refine we_chain ?_ | refine we_slice ?_ | refine we_int ?_ | refine we_bl ?_ | refine we_non ?_ | refine we_str ?_ | refine we_neg ?_ | refine we_not ?_ | refine we_and ?_ | refine we_or ?_ | refine we_if ?_ | refine we_tup ?_ | refine we_lst ?_ | refine we_call ?_ | refine we_mt (by with_unfolding_all exact rfl) ?_)
  | (with_reducible show WS _ _ _ _; with_reducible first | refine ws_seqA ?_ | refine ws_seqD ?_ | refine ws_asg (by with_unfolding_all exact rfl) ?_ | refine ws_asgG ?_ | refine ws_if ?_ | refine ws_ret ?_ | refine ws_drop ?_ | refine ws_next ?_ | refine ws_retN ?_)
  | (with_reducible show WT _ _ _; with_reducible first | refine wt_test ?_ | refine wt_B ?_ | refine wt_not ?_ | refine wt_and ?_ | refine wt_or ?_ | refine wt_yes ?_)
  | (with_reducible show WA _ _ _; with_reducible first | refine wa_nil ?_ | refine wa_cons (wq_of (we_var (by with_unfolding_all exact rfl) ?_)) | refine wa_slotU (by with_unfolding_all exact rfl) ?_ | refine wa_cons ?_)
  | (with_reducible show OpK _ _ _ _ _; with_reducible first | refine ok_isB ?_ | refine ok_notB ?_ | refine ok_plusI ?_ | refine ok_sub ?_ | refine ok_lt ?_ | refine ok_le ?_ | refine ok_gt ?_ | refine ok_ge ?_ | refine ok_eqI ?_ | refine ok_neI ?_ | refine ok_mod (by first | assumption | decide | omega) ?_ | refine ok_ixL (by with_unfolding_all exact rfl) ?_)
  | (with_reducible show CbK _ _ _ _; with_reducible first | refine ck_lenL ?_ | refine ck_lenT ?_ | refine ck_int ?_ | refine ck_intB ?_ | refine ck_max ?_ | refine ck_min ?_ | refine ck_list ?_)
  | with_reducible refine wq_of ?_
  | (with_reducible show WG _ _ _ _ _; with_reducible first | refine wg_name (by with_unfolding_all exact rfl) ?_ | refine wg_tup (by with_unfolding_all exact rfl) ?_ | refine wg_set (by with_unfolding_all exact rfl) ?_)
  | (with_reducible show WGs _ _ _ _ _; with_reducible first | refine wgs_cons ?_ | refine wgs_nil ?_)
  | (with_reducible show WO _ _ _; with_reducible first | refine wo_some ?_ | refine wo_none ?_)
  | refine ⟨_, argD5, ?_⟩
  | refine ⟨_, argD6, ?_⟩
  | refine ⟨_, argD7, ?_⟩
  | refine ⟨_, argD9, ?_⟩
  | with_reducible refine iteT ?_
  | with_reducible refine iteF ?_
  | with_reducible refine ⟨_, frz_per, ?_⟩
  | with_reducible refine ⟨_, frz_own, ?_⟩
  | refine ⟨_, rfl, ?_⟩
  | refine ⟨_, argD1, ?_⟩
  | refine ⟨_, argD2, ?_⟩
  | refine ⟨_, argD0, ?_⟩
  | refine ⟨_, argD3, ?_⟩
  | refine ⟨_, argD4, ?_⟩
  | refine ⟨_, _, rfl, rfl, rfl, ?_⟩
  | refine ⟨_, _, _, rfl, rfl, rfl, ?_⟩
  | refine ⟨(by simp only [List.length_cons, List.length_nil]; decide), ?_⟩
  | refine ⟨rfl, nd1, ?_⟩
  | refine ⟨rfl, nd0, ?_⟩)
local macro_rules | `(tactic| walk_at "w") => `(tactic| first
  | (with_reducible show WE _ _ _; with_reducible first | refine we_var (by with_unfolding_all exact rfl) ?_ | refine we_varF (by with_unfolding_all exact rfl) frz_own ?_ | (show WE (tOp _ _ _) _ _; first | refine we_isNd ?_ | refine we_notNd ?_ | refine we_notN ?_ | refine we_ixS (by with_unfolding_all exact rfl) ?_ | refine we_ixScr (by with_unfolding_all exact rfl) ?_ | refine we_inS (by with_unfolding_all exact rfl) ?_ | refine we_notInS (by with_unfolding_all exact rfl) ?_ | refine we_eqS (by with_unfolding_all exact rfl) ?_ | refine we_neS (by with_unfolding_all exact rfl) ?_ | refine we_opK ?_) | (show WE (tCB _ _) _ _; first | refine we_repr ?_ | refine we_isInt ?_ | refine we_isBl ?_ | refine we_isLst ?_ | refine we_isTup ?_ | refine we_lenO (by with_unfolding_all exact rfl) ?_ | refine we_lenS' (by with_unfolding_all exact rfl) ?_ | refine we_lenScr (by with_unfolding_all exact rfl) ?_ | refine we_cbK ?_) | refine we_dnew ?_ | refine we_lenSetI ?_ | refine we_revL ?_ | refine we_chain ?_ | refine we_slice ?_ | refine we_int ?_ | refine we_bl ?_ | refine we_non ?_ | refine we_str ?_ | refine we_neg ?_ | refine we_not ?_ | refine we_and ?_ | refine we_or ?_ | refine we_if ?_ | refine we_tup ?_ | refine we_lst ?_ | refine we_call ?_ | refine we_mt (by with_unfolding_all exact rfl) ?_)
  | (with_reducible show WS _ _ _ _; with_reducible first | refine ws_seqI ?_ | refine ws_seqA ?_ | refine ws_seqD ?_ | refine ws_asg (by with_unfolding_all exact rfl) ?_ | refine ws_asgG ?_ | refine ws_if ?_ | refine ws_ret ?_ | refine ws_drop ?_ | refine ws_next ?_ | refine ws_retN ?_)
  | (with_reducible show WT _ _ _; with_reducible first | refine wt_truL ?_ | refine wt_test ?_ | refine wt_B ?_ | refine wt_not ?_ | refine wt_and ?_ | refine wt_or ?_ | refine wt_yes ?_)
  | (with_reducible show WA _ _ _; with_reducible first | refine wa_nil ?_ | refine wa_cons (wq_of (we_var (by with_unfolding_all exact rfl) ?_)) | refine wa_slotU (by with_unfolding_all exact rfl) ?_ | refine wa_cons ?_)
  | (with_reducible show OpK _ _ _ _ _; with_reducible first | refine ok_neR ?_ | refine ok_eqR ?_ | refine ok_isB ?_ | refine ok_notB ?_ | refine ok_plusI ?_ | refine ok_sub ?_ | refine ok_lt ?_ | refine ok_le ?_ | refine ok_gt ?_ | refine ok_ge ?_ | refine ok_eqI ?_ | refine ok_neI ?_ | refine ok_mod (by first | assumption | decide | omega) ?_ | refine ok_ixL (by with_unfolding_all exact rfl) ?_)
  | (with_reducible show CbK _ _ _ _; with_reducible first | refine ck_tuple ?_ | refine ck_allF ?_ | refine ck_anyF ?_ | refine ck_abs ?_ | refine ck_sumI ?_ | refine ck_lenL ?_ | refine ck_lenT ?_ | refine ck_int ?_ | refine ck_intB ?_ | refine ck_max ?_ | refine ck_min ?_ | refine ck_list ?_)
  | with_reducible refine wq_of ?_
  | (with_reducible show WG _ _ _ _ _; with_reducible first | refine wg_name (by with_unfolding_all exact rfl) ?_ | refine wg_tup (by with_unfolding_all exact rfl) ?_ | refine wg_set (by with_unfolding_all exact rfl) ?_)
  | (with_reducible show WGs _ _ _ _ _; with_reducible first | refine wgs_cons ?_ | refine wgs_nil ?_)
  | (with_reducible show WO _ _ _; with_reducible first | refine wo_some ?_ | refine wo_none ?_)
  | refine ⟨_, argD5, ?_⟩
  | refine ⟨_, argD6, ?_⟩
  | refine ⟨_, argD7, ?_⟩
  | refine ⟨_, argD9, ?_⟩
  | with_reducible refine iteT ?_
  | with_reducible refine iteF ?_
  | with_reducible refine ⟨_, frz_per, ?_⟩
  | with_reducible refine ⟨_, frz_own, ?_⟩
  | refine ⟨_, rfl, ?_⟩
  | refine ⟨_, argD1, ?_⟩
  | refine ⟨_, argD2, ?_⟩
  | refine ⟨_, argD0, ?_⟩
  | refine ⟨_, argD3, ?_⟩
  | refine ⟨_, argD4, ?_⟩
  | refine ⟨_, _, rfl, rfl, rfl, ?_⟩
  | refine ⟨_, _, _, rfl, rfl, rfl, ?_⟩
  | refine ⟨(by simp only [List.length_cons, List.length_nil]; decide), ?_⟩
  | refine ⟨rfl, nd1, ?_⟩
  | refine ⟨rfl, nd0, ?_⟩
  | refine ⟨_, argD8, ?_⟩
  | refine ⟨_, argD10, ?_⟩)
local macro_rules | `(tactic| walk_at "v") => `(tactic| first
  | (with_reducible show WE _ _ _; with_reducible first | refine we_var (by with_unfolding_all exact rfl) ?_ | refine we_varF (by with_unfolding_all exact rfl) frz_own ?_ | (show WE (tOp _ _ _) _ _; first | refine we_isNd ?_ | refine we_notNd ?_ | refine we_notN ?_ | refine we_ixS (by with_unfolding_all exact rfl) ?_ | refine we_ixScr (by with_unfolding_all exact rfl) ?_ | refine we_inS (by with_unfolding_all exact rfl) ?_ | refine we_notInS (by with_unfolding_all exact rfl) ?_ | refine we_eqS (by with_unfolding_all exact rfl) ?_ | refine we_neS (by with_unfolding_all exact rfl) ?_ | refine we_opK ?_) | (show WE (tCB _ _) _ _; first | refine we_repr ?_ | refine we_lenWeb (by with_unfolding_all exact rfl) (by assumption) ?_ | refine we_isInt ?_ | refine we_isBl ?_ | refine we_isLst ?_ | refine we_isTup ?_ | refine we_lenO (by with_unfolding_all exact rfl) ?_ | refine we_lenS' (by with_unfolding_all exact rfl) ?_ | refine we_lenScr (by with_unfolding_all exact rfl) ?_ | refine we_cbK ?_) | refine we_dnew ?_ | refine we_lenSetI ?_ | refine we_revL ?_ | refine we_nbWeb (by with_unfolding_all exact rfl) (by assumption) (by assumption) ?_ | refine we_tiesWeb (by with_unfolding_all exact rfl) ?_ | refine we_chain ?_ | refine we_slice ?_ | refine we_int ?_ | refine we_bl ?_ | refine we_non ?_ | refine we_str ?_ | refine we_neg ?_ | refine we_not ?_ | refine we_and ?_ | refine we_or ?_ | refine we_if ?_ | refine we_tup ?_ | refine we_lst ?_ | refine we_call ?_ | refine we_mt (by with_unfolding_all exact rfl) ?_)
  | (with_reducible show WS _ _ _ _; with_reducible first | refine ws_seqI ?_ | refine ws_seqA ?_ | refine ws_seqD ?_ | refine ws_asg (by with_unfolding_all exact rfl) ?_ | refine ws_asgG ?_ | refine ws_if ?_ | refine ws_ret ?_ | refine ws_drop ?_ | refine ws_next ?_ | refine ws_retN ?_)
  | (with_reducible show WT _ _ _; with_reducible first | refine wt_truL ?_ | refine wt_test ?_ | refine wt_B ?_ | refine wt_not ?_ | refine wt_and ?_ | refine wt_or ?_ | refine wt_yes ?_)
  | (with_reducible show WA _ _ _; with_reducible first | refine wa_nil ?_ | refine wa_cons (wq_of (we_var (by with_unfolding_all exact rfl) ?_)) | refine wa_slotU (by with_unfolding_all exact rfl) ?_ | refine wa_cons ?_)
  | (with_reducible show OpK _ _ _ _ _; with_reducible first | refine ok_neR ?_ | refine ok_eqR ?_ | refine ok_isB ?_ | refine ok_notB ?_ | refine ok_plusI ?_ | refine ok_sub ?_ | refine ok_lt ?_ | refine ok_le ?_ | refine ok_gt ?_ | refine ok_ge ?_ | refine ok_eqI ?_ | refine ok_neI ?_ | refine ok_mod (by first | assumption | decide | omega) ?_ | refine ok_ixL (by with_unfolding_all exact rfl) ?_)
  | (with_reducible show CbK _ _ _ _; with_reducible first | refine ck_tuple ?_ | refine ck_allF ?_ | refine ck_anyF ?_ | refine ck_abs ?_ | refine ck_sumI ?_ | refine ck_lenL ?_ | refine ck_lenT ?_ | refine ck_int ?_ | refine ck_intB ?_ | refine ck_max ?_ | refine ck_min ?_ | refine ck_list ?_)
  | with_reducible refine wq_of ?_
  | (with_reducible show WG _ _ _ _ _; with_reducible first | refine wg_name (by with_unfolding_all exact rfl) ?_ | refine wg_tup (by with_unfolding_all exact rfl) ?_ | refine wg_set (by with_unfolding_all exact rfl) ?_)
  | (with_reducible show WGs _ _ _ _ _; with_reducible first | refine wgs_cons ?_ | refine wgs_nil ?_)
  | (with_reducible show WO _ _ _; with_reducible first | refine wo_some ?_ | refine wo_none ?_)
  | refine ⟨_, argD5, ?_⟩
  | refine ⟨_, argD6, ?_⟩
  | refine ⟨_, argD7, ?_⟩
  | refine ⟨_, argD9, ?_⟩
  | with_reducible refine iteT ?_
  | with_reducible refine iteF ?_
  | with_reducible refine ⟨_, frz_per, ?_⟩
  | with_reducible refine ⟨_, frz_own, ?_⟩
  | refine ⟨_, rfl, ?_⟩
  | refine ⟨_, argD1, ?_⟩
  | refine ⟨_, argD2, ?_⟩
  | refine ⟨_, argD0, ?_⟩
  | refine ⟨_, argD3, ?_⟩
  | refine ⟨_, argD4, ?_⟩
  | refine ⟨_, _, rfl, rfl, rfl, ?_⟩
  | refine ⟨_, _, _, rfl, rfl, rfl, ?_⟩
  | refine ⟨(by simp only [List.length_cons, List.length_nil]; decide), ?_⟩
  | refine ⟨rfl, nd1, ?_⟩
  | refine ⟨rfl, nd0, ?_⟩
  | refine ⟨_, argD8, ?_⟩
  | refine ⟨_, argD10, ?_⟩)
local macro_rules | `(tactic| walk_at "p") => `(tactic| refine ⟨_, _, rfl, (by omega), (by first | decide | omega), (by first | decide | omega), ?_⟩)
local macro_rules | `(tactic| walk_at "n") => `(tactic| try dsimp only [back, List.set_cons_zero, List.set_cons_succ, List.map_cons, List.map_nil, List.cons_append, List.nil_append])
local macro_rules | `(tactic| walk_at "q") => `(tactic| first | with_reducible refine ws_seqP (ws_par (by with_unfolding_all exact rfl) (by with_unfolding_all exact rfl) ?_) | refine ⟨_, _, rfl, ?_⟩ | walk_at "v")
namespace J
end J
end G

namespace G
open PySem L2
local macro_rules | `(tactic| walk_at "g1") => `(tactic| first
  | (with_reducible show WE _ _ _; with_reducible first | refine we_var (by with_unfolding_all exact rfl) ?_ | (show WE (tOp _ _ _) _ _; first | refine we_ixS (by with_unfolding_all exact rfl) ?_ | refine we_ixScr (by with_unfolding_all exact rfl) ?_ | refine we_inS (by with_unfolding_all exact rfl) ?_ | refine we_notInS (by with_unfolding_all exact rfl) ?_ | refine we_eqS (by with_unfolding_all exact rfl) ?_ | refine we_neS (by with_unfolding_all exact rfl) ?_ | refine we_opK ?_) | (show WE (tCB _ _) _ _; first | refine we_lenS' (by with_unfolding_all exact rfl) ?_ | refine we_lenScr (by with_unfolding_all exact rfl) ?_ | refine we_cbK ?_) | refine we_int ?_ | refine we_bl ?_ | refine we_non ?_ | refine we_str ?_ | refine we_neg ?_ | refine we_not ?_ | refine we_and ?_ | refine we_or ?_ | refine we_if ?_ | refine we_tup ?_ | refine we_lst ?_ | refine we_call ?_ | refine we_mt (by with_unfolding_all exact rfl) ?_)
  | (with_reducible show WS _ _ _ _; with_reducible first | refine ws_seqA ?_ | refine ws_seqD ?_ | refine ws_asg (by with_unfolding_all exact rfl) ?_ | refine ws_asgG ?_ | refine ws_if ?_ | refine ws_ret ?_ | refine ws_drop ?_ | refine ws_next ?_ | refine ws_retN ?_)
  | (with_reducible show WT _ _ _; with_reducible first | refine wt_test ?_ | refine wt_B ?_ | refine wt_not ?_ | refine wt_and ?_ | refine wt_or ?_ | refine wt_yes ?_)
  | (with_reducible show WA _ _ _; with_reducible first | refine wa_nil ?_ | refine wa_cons (wq_of (we_var (by with_unfolding_all exact rfl) ?_)) | refine wa_slotU (by with_unfolding_all exact rfl) ?_ | refine wa_cons ?_)
  | (with_reducible show OpK _ _ _ _ _; with_reducible first | refine ok_plusI ?_ | refine ok_sub ?_ | refine ok_lt ?_ | refine ok_le ?_ | refine ok_gt ?_ | refine ok_ge ?_ | refine ok_eqI ?_ | refine ok_neI ?_ | refine ok_mod (by first | assumption | decide | omega) ?_ | refine ok_ixL (by with_unfolding_all exact rfl) ?_)
  | (with_reducible show CbK _ _ _ _; with_reducible first | refine ck_lenL ?_ | refine ck_lenT ?_ | refine ck_int ?_ | refine ck_intB ?_ | refine ck_max ?_ | refine ck_min ?_ | refine ck_list ?_)
  | with_reducible refine wq_of ?_
  | (with_reducible show WG _ _ _ _ _; with_reducible first | refine wg_name (by with_unfolding_all exact rfl) ?_ | refine wg_tup (by with_unfolding_all exact rfl) ?_ | refine wg_set (by with_unfolding_all exact rfl) ?_)
  | (with_reducible show WGs _ _ _ _ _; with_reducible first | refine wgs_cons ?_ | refine wgs_nil ?_)
  | with_reducible refine iteT ?_
  | with_reducible refine iteF ?_
  | with_reducible refine ⟨_, frz_per, ?_⟩
  | with_reducible refine ⟨_, frz_own, ?_⟩
  | refine ⟨_, rfl, ?_⟩
  | refine ⟨_, argD1, ?_⟩
  | refine ⟨_, argD2, ?_⟩
  | refine ⟨_, argD0, ?_⟩
  | refine ⟨_, argD3, ?_⟩
  | refine ⟨_, argD4, ?_⟩
  | refine ⟨_, _, rfl, rfl, rfl, ?_⟩
  | refine ⟨_, _, _, rfl, rfl, rfl, ?_⟩
  | refine ⟨(by simp only [List.length_cons, List.length_nil]; decide), ?_⟩
  | refine ⟨rfl, nd1, ?_⟩
  | refine ⟨rfl, nd0, ?_⟩)
local macro_rules | `(tactic| walk_at "go") => `(tactic| repeat walk_at "g1")
local macro_rules | `(tactic| walk_at "g2") => `(tactic| first
  | (with_reducible show WE _ _ _; with_reducible first | refine we_var (by with_unfolding_all exact rfl) ?_ | (show WE (tOp _ _ _) _ _; first | refine we_notN ?_ | refine we_ixS (by with_unfolding_all exact rfl) ?_ | refine we_ixScr (by with_unfolding_all exact rfl) ?_ | refine we_inS (by with_unfolding_all exact rfl) ?_ | refine we_notInS (by with_unfolding_all exact rfl) ?_ | refine we_eqS (by with_unfolding_all exact rfl) ?_ | refine we_neS (by with_unfolding_all exact rfl) ?_ | refine we_opK ?_) | (show WE (tCB _ _) _ _; first | refine we_isInt ?_ | refine we_isBl ?_ | refine we_isLst ?_ | refine we_isTup ?_ | refine we_lenO (by with_unfolding_all exact rfl) ?_ | refine we_lenS' (by with_unfolding_all exact rfl) ?_ | refine we_lenScr (by with_unfolding_all exact rfl) ?_ | refine we_cbK ?_) | refine we_chain ?_ | refine we_slice ?_ | refine we_int ?_ | refine we_bl ?_ | refine we_non ?_ | refine we_str ?_ | refine we_neg ?_ | refine we_not ?_ | refine we_and ?_ | refine we_or ?_ | refine we_if ?_ | refine we_tup ?_ | refine we_lst ?_ | refine we_call ?_ | refine we_mt (by with_unfolding_all exact rfl) ?_)
  | (with_reducible show WS _ _ _ _; with_reducible first | refine ws_seqA ?_ | refine ws_seqD ?_ | refine ws_asg (by with_unfolding_all exact rfl) ?_ | refine ws_asgG ?_ | refine ws_if ?_ | refine ws_ret ?_ | refine ws_drop ?_ | refine ws_next ?_ | refine ws_retN ?_)
  | (with_reducible show WT _ _ _; with_reducible first | refine wt_test ?_ | refine wt_B ?_ | refine wt_not ?_ | refine wt_and ?_ | refine wt_or ?_ | refine wt_yes ?_)
  | (with_reducible show WA _ _ _; with_reducible first | refine wa_nil ?_ | refine wa_cons (wq_of (we_var (by with_unfolding_all exact rfl) ?_)) | refine wa_slotU (by with_unfolding_all exact rfl) ?_ | refine wa_cons ?_)
  | (with_reducible show OpK _ _ _ _ _; with_reducible first | refine ok_isB ?_ | refine ok_notB ?_ | refine ok_plusI ?_ | refine ok_sub ?_ | refine ok_lt ?_ | refine ok_le ?_ | refine ok_gt ?_ | refine ok_ge ?_ | refine ok_eqI ?_ | refine ok_neI ?_ | refine ok_mod (by first | assumption | decide | omega) ?_ | refine ok_ixL (by with_unfolding_all exact rfl) ?_)
  | (with_reducible show CbK _ _ _ _; with_reducible first | refine ck_lenL ?_ | refine ck_lenT ?_ | refine ck_int ?_ | refine ck_intB ?_ | refine ck_max ?_ | refine ck_min ?_ | refine ck_list ?_)
  | with_reducible refine wq_of ?_
  | (with_reducible show WG _ _ _ _ _; with_reducible first | refine wg_name (by with_unfolding_all exact rfl) ?_ | refine wg_tup (by with_unfolding_all exact rfl) ?_ | refine wg_set (by with_unfolding_all exact rfl) ?_)
  | (with_reducible show WGs _ _ _ _ _; with_reducible first | refine wgs_cons ?_ | refine wgs_nil ?_)
  | (with_reducible show WO _ _ _; with_reducible first | refine wo_some ?_ | refine wo_none ?_)
  | refine ⟨_, argD5, ?_⟩
  | refine ⟨_, argD6, ?_⟩
  | refine ⟨_, argD7, ?_⟩
  | refine ⟨_, argD9, ?_⟩
  | with_reducible refine iteT ?_
  | with_reducible refine iteF ?_
  | with_reducible refine ⟨_, frz_per, ?_⟩
  | with_reducible refine ⟨_, frz_own, ?_⟩
  | refine ⟨_, rfl, ?_⟩
  | refine ⟨_, argD1, ?_⟩
  | refine ⟨_, argD2, ?_⟩
  | refine ⟨_, argD0, ?_⟩
  | refine ⟨_, argD3, ?_⟩
  | refine ⟨_, argD4, ?_⟩
  | refine ⟨_, _, rfl, rfl, rfl, ?_⟩
  | refine ⟨_, _, _, rfl, rfl, rfl, ?_⟩
  | refine ⟨(by simp only [List.length_cons, List.length_nil]; decide), ?_⟩
  | refine ⟨rfl, nd1, ?_⟩
  | refine ⟨rfl, nd0, ?_⟩)
local macro_rules | `(tactic| walk_at "g2") => `(tactic| first | with_reducible refine we_isInt ?_ | with_reducible refine we_isBl ?_ | with_reducible refine we_isLst ?_ | with_reducible refine we_isTup ?_ | with_reducible refine we_chain ?_ | with_reducible refine we_slice ?_ | with_reducible refine wo_some ?_ | with_reducible refine wo_none ?_ | walk_at "g1")
abbrev t_is_count_0 (K : PySem.W.Frag) : TS :=
  (tRet (tAndV (tCB (rIsiA K) (tCons (tVar 0) (tCons (tC (.ty "int")) tNil))) (tAndV (tNotV (tCB (rIsiA K) (tCons (tVar 0) (tCons (tC (.ty "bool")) tNil)))) (tOp (rGeI) (tVar 0) (tC (.int 0))))))
def t_is_count (K : PySem.W.Frag) : TS :=
  (t_is_count_0 K)
abbrev N_is_count : List Str := ["value"]
/-- a whole number from 0 on -/
def cntD : PyData → Bool
  | .int n => decide (0 ≤ n)
  | _ => false
def F_is_count : Fw := fun gs kk _ => ∃ d, gs = [dat d] ∧ kk (dat (.bool (cntD d))) [none]
abbrev sp_is_count (K : PySem.W.Frag) : Sp := SpG 1 F_is_count
theorem pure_is_count {K : PySem.W.Frag} {vs : List V} {H : Hp} {Q : VK} {E : XK} (h : sp_is_count K vs H Q E) : t_is_count K { nx := fun _ H' => Q .non H', rt := Q } (start N_is_count vs) H := by
  refine body_ok (fun _ => false) ?_ h
  rintro gs kk xx ⟨d, rfl, hk⟩ -
  unfold t_is_count
  repeat walk_at "g2"
  have out : ∀ {b : Bool}, cntD d = b → ∃ g' Γp, Ent (dat (.bool b)) g' ∧ Les (mask (fun _ => false) 1 (List.map some [dat d] ++ List.replicate (N_is_count.length - 1) none)) Γp ∧ kk g' Γp := fun {b} e => ⟨_, [none], Ent.refl, les_none les_nil, e ▸ hk⟩
  refine ite_b (fun e => ?_) fun e => out (by cases d <;> first | rfl | exact Bool.noConfusion e)
  repeat walk_at "g2"
  refine ite_b (fun e2 => ?_) fun e2 => out (by cases d <;> first | rfl | exact Bool.noConfusion e | exact Bool.noConfusion e2)
  cases d with
  | int n =>
    repeat walk_at "g2"
    exact out rfl
  | bool b => exact Bool.noConfusion e2
  | none => exact Bool.noConfusion e
  | str s => exact Bool.noConfusion e
  | list s => exact Bool.noConfusion e
  | tuple s => exact Bool.noConfusion e
  | dict s => exact Bool.noConfusion e
abbrev t_are_counts_0 (K : PySem.W.Frag) : TS :=
  (tRet (tAndV (tCB (rIsiA K) (tCons (tVar 0) (tCons (tC (.ty "list")) tNil))) (tCB (rAllA K) (tCons (tLc (iList K (tVar 0)) (gName 1) tYes (tCall (sp_is_count K) [] E0 (tCons (tVar 1) tNil)) [1]) tNil))))
def t_are_counts (K : PySem.W.Frag) : TS :=
  (t_are_counts_0 K)
abbrev N_are_counts : List Str := ["value", "entry"]
/-- a list of whole numbers from 0 on -/
def cntsD : PyData → Bool
  | .list ds => ds.all cntD
  | _ => false
def F_are_counts : Fw := fun gs kk _ => ∃ d, gs = [dat d] ∧ (∀ ds, d = .list ds → ds.length < 100000) ∧ kk (dat (.bool (cntsD d))) [none]
abbrev sp_are_counts (K : PySem.W.Frag) : Sp := SpG 1 F_are_counts
theorem pure_are_counts {K : PySem.W.Frag} {vs : List V} {H : Hp} {Q : VK} {E : XK} (h : sp_are_counts K vs H Q E) : t_are_counts K { nx := fun _ H' => Q .non H', rt := Q } (start N_are_counts vs) H := by
  refine body_ok (fun _ => false) ?_ h
  rintro gs kk xx ⟨d, rfl, hz, hk⟩ -
  unfold t_are_counts
  repeat walk_at "g2"
  refine ite_b (fun e => ?_) fun e => ⟨_, [none], Ent.refl, les_none les_nil, ?_⟩
  · cases d with
    | list ds =>
      repeat walk_at "g2"
      refine we_lc (fun i acc Γ => acc = (ds.take i).map (fun d => .bool (cntD d)) ∧ Γ = [some (dat (.list ds)), none]) ?_
      refine wi_list ?_
      repeat walk_at "g2"
      refine ⟨⟨rfl, rfl⟩, ?_, ?_⟩
      · rintro acc Γ2 ⟨rfl, rfl⟩
        repeat walk_at "g2"
        rw [List.take_length]
        exact ck_allM ⟨_, [none], Ent.refl, les_none les_nil, hk⟩
      · rintro i acc Γ2 hi ⟨rfl, rfl⟩ -
        obtain ⟨x, hx⟩ := getD_of hi
        dsimp only
        rw [getD_at hx]
        refine wg_name rfl ?_
        refine wt_yes ?_
        refine iteT ?_
        repeat walk_at "g2"
        exact ⟨by rw [List.length_map, List.length_take]; have := hz ds rfl; omega, (take_map hx).symm, rfl⟩
    | bool b => exact Bool.noConfusion e
    | int b => exact Bool.noConfusion e
    | none => exact Bool.noConfusion e
    | str s => exact Bool.noConfusion e
    | tuple s => exact Bool.noConfusion e
    | dict s => exact Bool.noConfusion e
  · have : cntsD d = false := by cases d <;> first | rfl | exact Bool.noConfusion e
    rw [← this]
    exact hk
abbrev t_are_ascending_counts_0 (K : PySem.W.Frag) : TS :=
  (tRet (tCB (rAllA K) (tCons (tLc (iZip K (tCons (tVar 0) (tCons (tSl (rSlL K) (tVar 0) (tPart (tC (.int 1))) tNoPart) tNil))) (gTup K 2 (gCons (gName 1) (gCons (gName 2) gNil))) tYes (tOp (rLtI) (tVar 1) (tVar 2)) [1, 2]) tNil)))
def t_are_ascending_counts (K : PySem.W.Frag) : TS :=
  (tSeq (tIfS (tNot (tB (tCall (sp_are_counts K) [] E0 (tCons (tVar 0) tNil)))) (tRet (tC (.bl false))) tNext)
    (t_are_ascending_counts_0 K))
abbrev N_are_ascending_counts : List Str := ["value", "low", "high"]
def ltD : PyData → PyData → Bool
  | .int i, .int j => decide (i < j)
  | _, _ => false
/-- one below the next one -/
def upD : List PyData → Bool
  | x :: y :: r => ltD x y && upD (y :: r)
  | _ => true
def rowD : PyData → Bool
  | .list ds => ds.all cntD && upD ds
  | _ => false
theorem upD_zip : ∀ ds : List PyData, (ds.zip (ds.drop 1)).all (fun p => ltD p.1 p.2) = upD ds
  | [] => rfl
  | [_] => rfl
  | x :: y :: r => by
    show (ltD x y && ((y :: r).zip ((y :: r).drop 1)).all _) = (ltD x y && upD (y :: r))
    rw [upD_zip (y :: r)]
def F_are_ascending_counts : Fw := fun gs kk _ => ∃ d, gs = [dat d] ∧ (∀ ds, d = .list ds → ds.length < 100000) ∧ kk (dat (.bool (rowD d))) [none]
abbrev sp_are_ascending_counts (K : PySem.W.Frag) : Sp := SpG 1 F_are_ascending_counts
theorem pure_are_ascending_counts {K : PySem.W.Frag} {vs : List V} {H : Hp} {Q : VK} {E : XK} (h : sp_are_ascending_counts K vs H Q E) : t_are_ascending_counts K { nx := fun _ H' => Q .non H', rt := Q } (start N_are_ascending_counts vs) H := by
  refine body_ok (fun _ => false) ?_ h
  rintro gs kk xx ⟨d, rfl, hz, hk⟩ -
  unfold t_are_ascending_counts
  refine ws_seq (ws_if ?_)
  repeat walk_at "g2"
  refine ⟨hz, _, frz_per, _, rfl, ?_⟩
  cases hb : cntsD d with
  | false =>
    refine iteT ?_
    repeat walk_at "g2"
    have : rowD d = false := by
      cases d <;> first | rfl | (simp only [cntsD] at hb; simp only [rowD, hb, Bool.false_and])
    exact ⟨_, [none], Ent.refl, les_none les_nil, by rw [← this]; exact hk⟩
  | true =>
    refine iteF ?_
    obtain ⟨ds, rfl⟩ : ∃ ds, d = .list ds := by
      cases d <;> first | exact ⟨_, rfl⟩ | exact Bool.noConfusion hb
    repeat walk_at "g2"
    have hl := hz ds rfl
    have hint : ∀ {i : Nat} {x : PyData}, ds[i]? = some x → ∃ n, x = .int n := fun {i x} hx => by
      have := List.all_eq_true.mp hb x (List.mem_of_getElem? hx)
      cases x <;> first | exact ⟨_, rfl⟩ | exact Bool.noConfusion this
    refine we_lc (fun i acc Γ => acc = ((ds.zip (ds.drop 1)).take i).map (fun p => .bool (ltD p.1 p.2)) ∧ Γ = [some (dat (.list ds)), none, none]) ?_
    refine wi_zip ?_
    repeat walk_at "g2"
    rw [cut1]
    refine ⟨_, _, argD2, ⟨rfl, rfl⟩, ?_, ?_⟩
    · rintro acc Γ2 ⟨rfl, rfl⟩
      repeat walk_at "g2"
      rw [List.take_of_length_le (by rw [List.length_zip]; exact Nat.le_refl _)]
      refine ck_allM ⟨_, [none], Ent.refl, les_none les_nil, ?_⟩
      rw [upD_zip]
      have : rowD (.list ds) = upD ds := by
        have e : ds.all cntD = true := hb
        simp only [rowD, e, Bool.true_and]
      rw [← this]
      exact hk
    · rintro i acc Γ2 hi ⟨rfl, rfl⟩ -
      obtain ⟨x, hx⟩ := getD_of (xs := ds) (i := i) (by omega)
      obtain ⟨y, hy⟩ := getD_of (xs := ds.drop 1) (i := i) (by omega)
      have hy' : ds[1 + i]? = some y := by rw [← hy, List.getElem?_drop]
      obtain ⟨n, rfl⟩ := hint hx
      obtain ⟨m, rfl⟩ := hint hy'
      have hp : (ds.zip (ds.drop 1))[i]? = some (.int n, .int m) := by rw [List.getElem?_zip_eq_some]; exact ⟨hx, hy⟩
      dsimp only
      rw [getD_at hx, getD_at hy]
      repeat walk_at "g2"
      exact ⟨by rw [List.length_map, List.length_take, List.length_zip]; omega, (take_map hp).symm, rfl⟩
end G

namespace G
open PySem L2
local macro_rules | `(tactic| walk_at "g1") => `(tactic| first
  | (with_reducible show WE _ _ _; with_reducible first | refine we_var (by with_unfolding_all exact rfl) ?_ | (show WE (tOp _ _ _) _ _; first | refine we_ixS (by with_unfolding_all exact rfl) ?_ | refine we_ixScr (by with_unfolding_all exact rfl) ?_ | refine we_inS (by with_unfolding_all exact rfl) ?_ | refine we_notInS (by with_unfolding_all exact rfl) ?_ | refine we_eqS (by with_unfolding_all exact rfl) ?_ | refine we_neS (by with_unfolding_all exact rfl) ?_ | refine we_opK ?_) | (show WE (tCB _ _) _ _; first | refine we_lenS' (by with_unfolding_all exact rfl) ?_ | refine we_lenScr (by with_unfolding_all exact rfl) ?_ | refine we_cbK ?_) | refine we_int ?_ | refine we_bl ?_ | refine we_non ?_ | refine we_str ?_ | refine we_neg ?_ | refine we_not ?_ | refine we_and ?_ | refine we_or ?_ | refine we_if ?_ | refine we_tup ?_ | refine we_lst ?_ | refine we_call ?_ | refine we_mt (by with_unfolding_all exact rfl) ?_)
  | (with_reducible show WS _ _ _ _; with_reducible first | refine ws_seqA ?_ | refine ws_seqD ?_ | refine ws_asg (by with_unfolding_all exact rfl) ?_ | refine ws_asgG ?_ | refine ws_if ?_ | refine ws_ret ?_ | refine ws_drop ?_ | refine ws_next ?_ | refine ws_retN ?_)
  | (with_reducible show WT _ _ _; with_reducible first | refine wt_test ?_ | refine wt_B ?_ | refine wt_not ?_ | refine wt_and ?_ | refine wt_or ?_ | refine wt_yes ?_)
  | (with_reducible show WA _ _ _; with_reducible first | refine wa_nil ?_ | refine wa_cons (wq_of (we_var (by with_unfolding_all exact rfl) ?_)) | refine wa_slotU (by with_unfolding_all exact rfl) ?_ | refine wa_cons ?_)
  | (with_reducible show OpK _ _ _ _ _; with_reducible first | refine ok_plusI ?_ | refine ok_sub ?_ | refine ok_lt ?_ | refine ok_le ?_ | refine ok_gt ?_ | refine ok_ge ?_ | refine ok_eqI ?_ | refine ok_neI ?_ | refine ok_mod (by first | assumption | decide | omega) ?_ | refine ok_ixL (by with_unfolding_all exact rfl) ?_)
  | (with_reducible show CbK _ _ _ _; with_reducible first | refine ck_lenL ?_ | refine ck_lenT ?_ | refine ck_int ?_ | refine ck_intB ?_ | refine ck_max ?_ | refine ck_min ?_ | refine ck_list ?_)
  | with_reducible refine wq_of ?_
  | (with_reducible show WG _ _ _ _ _; with_reducible first | refine wg_name (by with_unfolding_all exact rfl) ?_ | refine wg_tup (by with_unfolding_all exact rfl) ?_ | refine wg_set (by with_unfolding_all exact rfl) ?_)
  | (with_reducible show WGs _ _ _ _ _; with_reducible first | refine wgs_cons ?_ | refine wgs_nil ?_)
  | with_reducible refine iteT ?_
  | with_reducible refine iteF ?_
  | with_reducible refine ⟨_, frz_per, ?_⟩
  | with_reducible refine ⟨_, frz_own, ?_⟩
  | refine ⟨_, rfl, ?_⟩
  | refine ⟨_, argD1, ?_⟩
  | refine ⟨_, argD2, ?_⟩
  | refine ⟨_, argD0, ?_⟩
  | refine ⟨_, argD3, ?_⟩
  | refine ⟨_, argD4, ?_⟩
  | refine ⟨_, _, rfl, rfl, rfl, ?_⟩
  | refine ⟨_, _, _, rfl, rfl, rfl, ?_⟩
  | refine ⟨(by simp only [List.length_cons, List.length_nil]; decide), ?_⟩
  | refine ⟨rfl, nd1, ?_⟩
  | refine ⟨rfl, nd0, ?_⟩)
local macro_rules | `(tactic| walk_at "go") => `(tactic| repeat walk_at "g1")
local macro_rules | `(tactic| walk_at "g2") => `(tactic| first
  | (with_reducible show WE _ _ _; with_reducible first | refine we_var (by with_unfolding_all exact rfl) ?_ | (show WE (tOp _ _ _) _ _; first | refine we_notN ?_ | refine we_ixS (by with_unfolding_all exact rfl) ?_ | refine we_ixScr (by with_unfolding_all exact rfl) ?_ | refine we_inS (by with_unfolding_all exact rfl) ?_ | refine we_notInS (by with_unfolding_all exact rfl) ?_ | refine we_eqS (by with_unfolding_all exact rfl) ?_ | refine we_neS (by with_unfolding_all exact rfl) ?_ | refine we_opK ?_) | (show WE (tCB _ _) _ _; first | refine we_isInt ?_ | refine we_isBl ?_ | refine we_isLst ?_ | refine we_isTup ?_ | refine we_lenO (by with_unfolding_all exact rfl) ?_ | refine we_lenS' (by with_unfolding_all exact rfl) ?_ | refine we_lenScr (by with_unfolding_all exact rfl) ?_ | refine we_cbK ?_) | refine we_chain ?_ | refine we_slice ?_ | refine we_int ?_ | refine we_bl ?_ | refine we_non ?_ | refine we_str ?_ | refine we_neg ?_ | refine we_not ?_ | refine we_and ?_ | refine we_or ?_ | refine we_if ?_ | refine we_tup ?_ | refine we_lst ?_ | refine we_call ?_ | refine we_mt (by with_unfolding_all exact rfl) ?_)
  | (with_reducible show WS _ _ _ _; with_reducible first | refine ws_seqA ?_ | refine ws_seqD ?_ | refine ws_asg (by with_unfolding_all exact rfl) ?_ | refine ws_asgG ?_ | refine ws_if ?_ | refine ws_ret ?_ | refine ws_drop ?_ | refine ws_next ?_ | refine ws_retN ?_)
  | (with_reducible show WT _ _ _; with_reducible first | refine wt_test ?_ | refine wt_B ?_ | refine wt_not ?_ | refine wt_and ?_ | refine wt_or ?_ | refine wt_yes ?_)
  | (with_reducible show WA _ _ _; with_reducible first | refine wa_nil ?_ | refine wa_cons (wq_of (we_var (by with_unfolding_all exact rfl) ?_)) | refine wa_slotU (by with_unfolding_all exact rfl) ?_ | refine wa_cons ?_)
  | (with_reducible show OpK _ _ _ _ _; with_reducible first | refine ok_isB ?_ | refine ok_notB ?_ | refine ok_plusI ?_ | refine ok_sub ?_ | refine ok_lt ?_ | refine ok_le ?_ | refine ok_gt ?_ | refine ok_ge ?_ | refine ok_eqI ?_ | refine ok_neI ?_ | refine ok_mod (by first | assumption | decide | omega) ?_ | refine ok_ixL (by with_unfolding_all exact rfl) ?_)
  | (with_reducible show CbK _ _ _ _; with_reducible first | refine ck_lenL ?_ | refine ck_lenT ?_ | refine ck_int ?_ | refine ck_intB ?_ | refine ck_max ?_ | refine ck_min ?_ | refine ck_list ?_)
  | with_reducible refine wq_of ?_
  | (with_reducible show WG _ _ _ _ _; with_reducible first | refine wg_name (by with_unfolding_all exact rfl) ?_ | refine wg_tup (by with_unfolding_all exact rfl) ?_ | refine wg_set (by with_unfolding_all exact rfl) ?_)
  | (with_reducible show WGs _ _ _ _ _; with_reducible first | refine wgs_cons ?_ | refine wgs_nil ?_)
  | (with_reducible show WO _ _ _; with_reducible first | refine wo_some ?_ | refine wo_none ?_)
  | refine ⟨_, argD5, ?_⟩
  | refine ⟨_, argD6, ?_⟩
  | refine ⟨_, argD7, ?_⟩
  | refine ⟨_, argD9, ?_⟩
  | with_reducible refine iteT ?_
  | with_reducible refine iteF ?_
  | with_reducible refine ⟨_, frz_per, ?_⟩
  | with_reducible refine ⟨_, frz_own, ?_⟩
  | refine ⟨_, rfl, ?_⟩
  | refine ⟨_, argD1, ?_⟩
  | refine ⟨_, argD2, ?_⟩
  | refine ⟨_, argD0, ?_⟩
  | refine ⟨_, argD3, ?_⟩
  | refine ⟨_, argD4, ?_⟩
  | refine ⟨_, _, rfl, rfl, rfl, ?_⟩
  | refine ⟨_, _, _, rfl, rfl, rfl, ?_⟩
  | refine ⟨(by simp only [List.length_cons, List.length_nil]; decide), ?_⟩
  | refine ⟨rfl, nd1, ?_⟩
  | refine ⟨rfl, nd0, ?_⟩)
end G

namespace G
open PySem L2
local macro_rules | `(tactic| walk_at "g1") => `(tactic| first
  | (with_reducible show WE _ _ _; with_reducible first | refine we_var (by with_unfolding_all exact rfl) ?_ | (show WE (tOp _ _ _) _ _; first | refine we_ixS (by with_unfolding_all exact rfl) ?_ | refine we_ixScr (by with_unfolding_all exact rfl) ?_ | refine we_inS (by with_unfolding_all exact rfl) ?_ | refine we_notInS (by with_unfolding_all exact rfl) ?_ | refine we_eqS (by with_unfolding_all exact rfl) ?_ | refine we_neS (by with_unfolding_all exact rfl) ?_ | refine we_opK ?_) | (show WE (tCB _ _) _ _; first | refine we_lenS' (by with_unfolding_all exact rfl) ?_ | refine we_lenScr (by with_unfolding_all exact rfl) ?_ | refine we_cbK ?_) | refine we_int ?_ | refine we_bl ?_ | refine we_non ?_ | refine we_str ?_ | refine we_neg ?_ | refine we_not ?_ | refine we_and ?_ | refine we_or ?_ | refine we_if ?_ | refine we_tup ?_ | refine we_lst ?_ | refine we_call ?_ | refine we_mt (by with_unfolding_all exact rfl) ?_)
  | (with_reducible show WS _ _ _ _; with_reducible first | refine ws_seqA ?_ | refine ws_seqD ?_ | refine ws_asg (by with_unfolding_all exact rfl) ?_ | refine ws_asgG ?_ | refine ws_if ?_ | refine ws_ret ?_ | refine ws_drop ?_ | refine ws_next ?_ | refine ws_retN ?_)
  | (with_reducible show WT _ _ _; with_reducible first | refine wt_test ?_ | refine wt_B ?_ | refine wt_not ?_ | refine wt_and ?_ | refine wt_or ?_ | refine wt_yes ?_)
  | (with_reducible show WA _ _ _; with_reducible first | refine wa_nil ?_ | refine wa_cons (wq_of (we_var (by with_unfolding_all exact rfl) ?_)) | refine wa_slotU (by with_unfolding_all exact rfl) ?_ | refine wa_cons ?_)
  | (with_reducible show OpK _ _ _ _ _; with_reducible first | refine ok_plusI ?_ | refine ok_sub ?_ | refine ok_lt ?_ | refine ok_le ?_ | refine ok_gt ?_ | refine ok_ge ?_ | refine ok_eqI ?_ | refine ok_neI ?_ | refine ok_mod (by first | assumption | decide | omega) ?_ | refine ok_ixL (by with_unfolding_all exact rfl) ?_)
  | (with_reducible show CbK _ _ _ _; with_reducible first | refine ck_lenL ?_ | refine ck_lenT ?_ | refine ck_int ?_ | refine ck_intB ?_ | refine ck_max ?_ | refine ck_min ?_ | refine ck_list ?_)
  | with_reducible refine wq_of ?_
  | (with_reducible show WG _ _ _ _ _; with_reducible first | refine wg_name (by with_unfolding_all exact rfl) ?_ | refine wg_tup (by with_unfolding_all exact rfl) ?_ | refine wg_set (by with_unfolding_all exact rfl) ?_)
  | (with_reducible show WGs _ _ _ _ _; with_reducible first | refine wgs_cons ?_ | refine wgs_nil ?_)
  | with_reducible refine iteT ?_
  | with_reducible refine iteF ?_
  | with_reducible refine ⟨_, frz_per, ?_⟩
  | with_reducible refine ⟨_, frz_own, ?_⟩
  | refine ⟨_, rfl, ?_⟩
  | refine ⟨_, argD1, ?_⟩
  | refine ⟨_, argD2, ?_⟩
  | refine ⟨_, argD0, ?_⟩
  | refine ⟨_, argD3, ?_⟩
  | refine ⟨_, argD4, ?_⟩
  | refine ⟨_, _, rfl, rfl, rfl, ?_⟩
  | refine ⟨_, _, _, rfl, rfl, rfl, ?_⟩
  | refine ⟨(by simp only [List.length_cons, List.length_nil]; decide), ?_⟩
  | refine ⟨rfl, nd1, ?_⟩
  | refine ⟨rfl, nd0, ?_⟩)
local macro_rules | `(tactic| walk_at "go") => `(tactic| repeat walk_at "g1")
local macro_rules | `(tactic| walk_at "g2") => `(tactic| first
  | (with_reducible show WE _ _ _; with_reducible first | refine we_var (by with_unfolding_all exact rfl) ?_ | (show WE (tOp _ _ _) _ _; first | refine we_notN ?_ | refine we_ixS (by with_unfolding_all exact rfl) ?_ | refine we_ixScr (by with_unfolding_all exact rfl) ?_ | refine we_inS (by with_unfolding_all exact rfl) ?_ | refine we_notInS (by with_unfolding_all exact rfl) ?_ | refine we_eqS (by with_unfolding_all exact rfl) ?_ | refine we_neS (by with_unfolding_all exact rfl) ?_ | refine we_opK ?_) | (show WE (tCB _ _) _ _; first | refine we_isInt ?_ | refine we_isBl ?_ | refine we_isLst ?_ | refine we_isTup ?_ | refine we_lenO (by with_unfolding_all exact rfl) ?_ | refine we_lenS' (by with_unfolding_all exact rfl) ?_ | refine we_lenScr (by with_unfolding_all exact rfl) ?_ | refine we_cbK ?_) | refine we_chain ?_ | refine we_slice ?_ | refine we_int ?_ | refine we_bl ?_ | refine we_non ?_ | refine we_str ?_ | refine we_neg ?_ | refine we_not ?_ | refine we_and ?_ | refine we_or ?_ | refine we_if ?_ | refine we_tup ?_ | refine we_lst ?_ | refine we_call ?_ | refine we_mt (by with_unfolding_all exact rfl) ?_)
  | (with_reducible show WS _ _ _ _; with_reducible first | refine ws_seqA ?_ | refine ws_seqD ?_ | refine ws_asg (by with_unfolding_all exact rfl) ?_ | refine ws_asgG ?_ | refine ws_if ?_ | refine ws_ret ?_ | refine ws_drop ?_ | refine ws_next ?_ | refine ws_retN ?_)
  | (with_reducible show WT _ _ _; with_reducible first | refine wt_test ?_ | refine wt_B ?_ | refine wt_not ?_ | refine wt_and ?_ | refine wt_or ?_ | refine wt_yes ?_)
  | (with_reducible show WA _ _ _; with_reducible first | refine wa_nil ?_ | refine wa_cons (wq_of (we_var (by with_unfolding_all exact rfl) ?_)) | refine wa_slotU (by with_unfolding_all exact rfl) ?_ | refine wa_cons ?_)
  | (with_reducible show OpK _ _ _ _ _; with_reducible first | refine ok_isB ?_ | refine ok_notB ?_ | refine ok_plusI ?_ | refine ok_sub ?_ | refine ok_lt ?_ | refine ok_le ?_ | refine ok_gt ?_ | refine ok_ge ?_ | refine ok_eqI ?_ | refine ok_neI ?_ | refine ok_mod (by first | assumption | decide | omega) ?_ | refine ok_ixL (by with_unfolding_all exact rfl) ?_)
  | (with_reducible show CbK _ _ _ _; with_reducible first | refine ck_lenL ?_ | refine ck_lenT ?_ | refine ck_int ?_ | refine ck_intB ?_ | refine ck_max ?_ | refine ck_min ?_ | refine ck_list ?_)
  | with_reducible refine wq_of ?_
  | (with_reducible show WG _ _ _ _ _; with_reducible first | refine wg_name (by with_unfolding_all exact rfl) ?_ | refine wg_tup (by with_unfolding_all exact rfl) ?_ | refine wg_set (by with_unfolding_all exact rfl) ?_)
  | (with_reducible show WGs _ _ _ _ _; with_reducible first | refine wgs_cons ?_ | refine wgs_nil ?_)
  | (with_reducible show WO _ _ _; with_reducible first | refine wo_some ?_ | refine wo_none ?_)
  | refine ⟨_, argD5, ?_⟩
  | refine ⟨_, argD6, ?_⟩
  | refine ⟨_, argD7, ?_⟩
  | refine ⟨_, argD9, ?_⟩
  | with_reducible refine iteT ?_
  | with_reducible refine iteF ?_
  | with_reducible refine ⟨_, frz_per, ?_⟩
  | with_reducible refine ⟨_, frz_own, ?_⟩
  | refine ⟨_, rfl, ?_⟩
  | refine ⟨_, argD1, ?_⟩
  | refine ⟨_, argD2, ?_⟩
  | refine ⟨_, argD0, ?_⟩
  | refine ⟨_, argD3, ?_⟩
  | refine ⟨_, argD4, ?_⟩
  | refine ⟨_, _, rfl, rfl, rfl, ?_⟩
  | refine ⟨_, _, _, rfl, rfl, rfl, ?_⟩
  | refine ⟨(by simp only [List.length_cons, List.length_nil]; decide), ?_⟩
  | refine ⟨rfl, nd1, ?_⟩
  | refine ⟨rfl, nd0, ?_⟩)
local macro_rules | `(tactic| walk_at "g2") => `(tactic| first | with_reducible refine we_isInt ?_ | with_reducible refine we_isBl ?_ | with_reducible refine we_isLst ?_ | with_reducible refine we_isTup ?_ | with_reducible refine we_chain ?_ | with_reducible refine we_lenO (by with_unfolding_all exact rfl) ?_ | with_reducible refine we_slice ?_ | with_reducible refine wo_some ?_ | with_reducible refine wo_none ?_ | walk_at "g1")
/-- the addresses of the program's classes -/
structure Ad where
  C_Web : Addr
  C_HueError : Addr
  C_InvalidWeb : Addr
  C_InvalidLists : Addr
  C_InvalidPlace : Addr
def F_Web_len_ (a : Ad) : Fw := fun gs kk _ => ∃ ds xs, gs = [per (objP a.C_Web ds)] ∧ lookD "_near" ds = some (.list xs) ∧ kk (dat (.int xs.length)) [none]
abbrev sp_Web_len_ (K : PySem.W.Frag) (a : Ad) : Sp := SpG 1 (F_Web_len_ a)
def F_Web_ties (a : Ad) : Fw := fun gs kk _ => ∃ ds xs, gs = [per (objP a.C_Web ds)] ∧ lookD "_ties" ds = some (.list xs) ∧ kk (own xs) [none]
abbrev sp_Web_ties (K : PySem.W.Frag) (a : Ad) : Sp := SpG 1 (F_Web_ties a)
/-- y is put at the end of the m-th one -/
def putAt (dss : List (List PyData)) (m : Nat) (y : PyData) : List (List PyData) := dss.set m (dss.getD m [] ++ [y])
def nearStep (dss : List (List PyData)) (t : Int × Int) : List (List PyData) := putAt (putAt dss t.1.toNat (.int t.2)) t.2.toNat (.int t.1)
/-- for each place the ones it is tied to, in the order of the ties -/
def nearL (n : Nat) (ts : List (Int × Int)) : List (List PyData) := ts.foldl nearStep (List.replicate n [])
theorem putAt_len {dss : List (List PyData)} {m : Nat} {y : PyData} : (putAt dss m y).length = dss.length := List.length_set
theorem nearStep_len {dss : List (List PyData)} {t : Int × Int} : (nearStep dss t).length = dss.length := by unfold nearStep; rw [putAt_len, putAt_len]
theorem nearFold_len : ∀ (ts : List (Int × Int)) (dss : List (List PyData)), (ts.foldl nearStep dss).length = dss.length
  | [], _ => rfl
  | t :: ts, dss => by rw [List.foldl_cons, nearFold_len ts, nearStep_len]
theorem nearL_len {n : Nat} {ts : List (Int × Int)} : (nearL n ts).length = n := by unfold nearL; rw [nearFold_len, List.length_replicate]
end G

/-! ### set(ties) of up to a thousand different ties: no two hashes alike, so the table only must have room -/
namespace GW
open PySem PySem.Spec PyProof.Rows L2
/-! #### the round of 5 i + 1, for the masks that come -/
def BigM (m : Nat) : Prop := m = 7 ∨ m = 31 ∨ m = 127 ∨ m = 511 ∨ m = 2047
def noz (m : Nat) : Nat → Nat → Bool
  | 0, _ => true
  | n + 1, x => (x != 0) && noz m n ((x * 5 + 1) % (m + 1))
theorem noz_spec {m : Nat} : ∀ {n a : Nat}, noz m n (lcgN m a) = true → ∀ k, k < n → lcgN m (a + k) ≠ 0
  | 0, _, _, k, hk => absurd hk (Nat.not_lt_zero _)
  | n + 1, a, h, k, hk => by
    have h := (Bool.and_eq_true _ _).mp h
    cases k with
    | zero => simpa using h.1
    | succ k =>
      have := noz_spec (n := n) (a := a + 1) h.2 k (by omega)
      rwa [show a + 1 + k = a + (k + 1) by omega] at this
theorem noz_all {m : Nat} (hm : BigM m) : noz m m (lcgN m 1) = true := by
  rcases hm with e | e | e | e | e <;> subst e <;> decide +kernel
theorem five_inj {m : Nat} (hm : BigM m) {a b : Nat} (ha : a ≤ m) (hb : b ≤ m) (e : (a * 5 + 1) % (m + 1) = (b * 5 + 1) % (m + 1)) : a = b := by
  rcases hm with z | z | z | z | z <;> subst z <;> omega
theorem lcgN_le (m : Nat) : ∀ k, lcgN m k ≤ m
  | 0 => Nat.zero_le _
  | k + 1 => Nat.le_of_lt_succ (Nat.mod_lt _ (Nat.succ_pos _))
theorem lcg_apart {m : Nat} (hm : BigM m) {d : Nat} (h0 : 0 < d) (hd : d ≤ m) : ∀ a, lcgN m (a + d) ≠ lcgN m a
  | 0 => by
    have := noz_spec (noz_all hm) (d - 1) (by omega)
    rw [show 1 + (d - 1) = 0 + d by omega] at this
    exact this
  | a + 1 => fun e => by
    rw [show a + 1 + d = a + d + 1 by omega] at e
    exact lcg_apart hm h0 hd a (five_inj hm (lcgN_le m _) (lcgN_le m _) e)
theorem cover {m : Nat} {f : Nat → Nat} (hb : ∀ k, f k ≤ m) (hd : ∀ a d, 0 < d → d ≤ m → f (a + d) ≠ f a) {j : Nat} (hj : j ≤ m) : ∃ k, k ≤ m ∧ f k = j := by
  refine Decidable.byContradiction fun hn => ?_
  have nd : ((List.range (m + 1)).map f).Nodup := by
    refine List.Pairwise.map f (R := fun a b => a < b ∧ b ≤ m) (fun a b ⟨h1, h2⟩ e => ?_) ?_
    · have := hd a (b - a) (by omega) (by omega)
      rw [show a + (b - a) = b by omega] at this
      exact this e.symm
    · rw [List.pairwise_iff_getElem]
      intro i k hi hk hik
      simp only [List.length_range] at hi hk
      simp only [List.getElem_range]
      omega
  have sub : ∀ x ∈ (List.range (m + 1)).map f, x ∈ (List.range (m + 1)).erase j := fun x hx => by
    obtain ⟨k, hk, rfl⟩ := List.mem_map.mp hx
    have hk := List.mem_range.mp hk
    exact (List.mem_erase_of_ne fun e => hn ⟨k, by omega, e⟩).mpr (List.mem_range.mpr (Nat.lt_succ_of_le (hb k)))
  have := nat_nodup_len _ _ nd sub
  rw [List.length_map, List.length_erase_of_mem (List.mem_range.mpr (by omega)), List.length_range] at this
  omega
theorem round {m : Nat} (hm : BigM m) {i j : Nat} (hi : i ≤ m) (hj : j ≤ m) : ∃ k, k ≤ m ∧ lcgI m i k = j := by
  obtain ⟨a, _, rfl⟩ := cover (lcgN_le m) (fun a d h0 hd => lcg_apart hm h0 hd a) hi
  refine cover (f := lcgI m (lcgN m a)) (fun k => by rw [lcgN_add]; exact lcgN_le m _) (fun b d h0 hd => ?_) hj
  rw [lcgN_add, lcgN_add, ← Nat.add_assoc]
  exact lcg_apart hm h0 hd _
theorem runs {m : Nat} (hm : BigM m) (h : Int) {j : Nat} (hj : j ≤ m) : ∃ n, n ≤ m + 12 ∧ runI m (SetTable.bits h) n = j := by
  obtain ⟨k, hk, e⟩ := round hm (runI_le m (SetTable.bits h) 12) hj
  exact ⟨12 + k, by omega, by rw [runI_tail (bits_lt h), e]⟩
theorem way_bd (m : Nat) (h : Int) (k : Nat) : way m h k ≤ m := by
  have hi : SetTable.bits h % (m + 1) ≤ m := Nat.le_of_lt_succ (Nat.mod_lt _ (Nat.succ_pos _))
  have r := runEnd_bd hi
  have q := nth_in (m := m) k (runAt m (SetTable.bits h % (m + 1)) (SetTable.bits h)) (by
    show SetTable.bits h % (m + 1) + (SetTable.runEnd m (SetTable.bits h % (m + 1)) - SetTable.bits h % (m + 1)) ≤ m
    omega)
  show (nth m _ k).j ≤ m
  omega
/-! #### the table has room -/
structure Lay (t : SetTable) (n : Nat) : Prop where
  ris : Ris t.place.toList
  dm : t.dummies = #[]
  sz : t.place.size = n
  mok : BigM t.mask
  bd : ∀ x ∈ t.place.toList, x ≤ t.mask
/-- the probe of a hash that isn't there meets an empty slot -/
theorem Lay.free {t : SetTable} {n : Nat} (T : Lay t n) (hl : n ≤ t.mask) {hashAt : Nat → Int} {h : Int} (hn : ∀ i, i < n → hashAt i ≠ h) : ∃ j, j ≤ t.mask ∧ j ∉ t.place.toList ∧ t.probe hashAt h (t.probeStart h) = some (.empty j none) := by
  obtain ⟨j, hj, hnj⟩ := st_missing t.place.toList (t.mask + 1) (by rw [Array.length_toList, T.sz]; omega)
  obtain ⟨r, hr, e⟩ := runs T.mok h (Nat.le_of_lt_succ hj)
  obtain ⟨k, hk, e2⟩ := run_nth t.mask (SetTable.bits h) r
  have hw : way t.mask h k = j := by
    show (nth t.mask _ k).j = j
    rw [e2]
    exact e
  obtain ⟨K, k1, k2, k3⟩ := st_least (p := fun k => way t.mask h k ∉ t.place.toList) k (by show way t.mask h k ∉ _; rw [hw]; exact hnj)
  rcases go_spec t T.ris T.dm hashAt h (10 * SetTable.turns t.mask) K (t.probeStart h) rfl (by unfold SetTable.turns; omega) (fun q hq => Classical.not_not.mp (k3 q hq)) k2 with ⟨q, i, _, hi, hh, _⟩ | ⟨_, hp⟩
  · exact absurd hh (hn i (by rw [← T.sz, ← Array.length_toList]; exact (List.getElem?_eq_some_iff.mp hi).1))
  · exact ⟨_, way_bd _ _ _, k2, hp⟩
theorem Lay.put {t : SetTable} {n : Nat} (T : Lay t n) {j : Nat} (hj : j ≤ t.mask) (hn : j ∉ t.place.toList) : Lay (t.put j).1 (n + 1) ∧ SetTable.below t.place j ≤ n := by
  have hb : SetTable.below t.place j ≤ t.place.toList.length := by rw [Array.length_toList]; exact (below_cut T.ris j).1
  have hpp := put_place t j
  refine ⟨⟨ris_insert T.ris fun e => hn (List.mem_of_getElem? (by rw [Array.getElem?_toList]; exact e)), put_dm T.dm j, ?_, T.mok, fun x hx => ?_⟩, ?_⟩
  · rw [← Array.length_toList, hpp, len_ins _ hb, Array.length_toList, T.sz]
  · rw [hpp] at hx
    rcases mem_ins.1 hx with z | z
    · rw [z]; exact hj
    · exact T.bd x z
  · rw [← T.sz, ← Array.length_toList]; exact hb
/-! #### laid anew -/
structure Sit (m n : Nat) (owner : Array (Option Nat)) : Prop where
  sz : owner.size = m + 1
  all : ∀ k, k < n → ∃ j, j ≤ m ∧ oAt owner j = some k
  ps : ∃ ps : List Nat, ps.length = n ∧ ∀ j, j ≤ m → oAt owner j ≠ none → j ∈ ps
theorem Sit.free {m n : Nat} (hm : BigM m) {owner : Array (Option Nat)} (W : Sit m n owner) (hl : n ≤ m) (h : Int) :
    ∃ j, j ≤ m ∧ oAt owner j = none ∧ SetTable.layClean.free m owner (SetTable.turns m) (SetTable.bits h % (m + 1)) (SetTable.bits h) = some j := by
  obtain ⟨ps, hps, hin⟩ := W.ps
  obtain ⟨j0, h0, hn0⟩ := st_missing ps (m + 1) (by omega)
  have hj0 : oAt owner j0 = none := Classical.not_not.mp fun z => hn0 (hin j0 (Nat.le_of_lt_succ h0) z)
  obtain ⟨r, hr, e⟩ := runs hm h (Nat.le_of_lt_succ h0)
  have hw : way m h (off m (SetTable.bits h % (m + 1)) (SetTable.bits h) r) = j0 := by
    show (nth m _ _).j = j0
    rw [nth_off, itL_run]
    exact e
  obtain ⟨K, k1, k2, k3⟩ := st_least (p := fun k => oAt owner (way m h k) = none) (off m (SetTable.bits h % (m + 1)) (SetTable.bits h) r) (by show oAt owner (way m h _) = none; rw [hw]; exact hj0)
  refine ⟨_, way_bd m h K, k2, free_spec m owner (SetTable.turns m) r _ _ K (by unfold SetTable.turns; omega) k1 (fun k hk => ?_) ?_⟩
  · have q := k3 k hk
    revert q
    show oAt owner (way m h k) ≠ none → (oAt owner (way m h k)).isNone = false
    cases oAt owner (way m h k) with
    | none => intro q; exact absurd rfl q
    | some _ => intro _; rfl
  · have q : oAt owner (nth m _ K).j = none := k2
    rw [q]
    rfl
theorem Sit.step {m n : Nat} {owner : Array (Option Nat)} (W : Sit m n owner) {j : Nat} (hj : j ≤ m) (e : oAt owner j = none) : Sit m (n + 1) (owner.setIfInBounds j (some n)) := by
  obtain ⟨ps, hps, hin⟩ := W.ps
  have hself := oAt_set_self (some n) (show j < owner.size by rw [W.sz]; omega)
  refine ⟨by rw [Array.size_setIfInBounds]; exact W.sz, fun k hk => ?_, ⟨j :: ps, by simp [hps], fun i hi z => ?_⟩⟩
  · by_cases c : k < n
    · obtain ⟨i, hi, ei⟩ := W.all k c
      exact ⟨i, hi, by rw [oAt_set_ne _ fun z => by rw [z, e] at ei; cases ei]; exact ei⟩
    · obtain rfl : k = n := by omega
      exact ⟨j, hj, hself⟩
  · by_cases c : i = j
    · rw [c]; exact List.mem_cons_self
    · rw [oAt_set_ne _ c] at z
      exact List.mem_cons_of_mem _ (hin i hi z)
end GW

namespace GW
open PySem PySem.Spec PyProof.Rows L2
/-! #### the set of tuples, no two hashes alike -/
structure Wid (P : Program) (w : World) (h : Heap) (a : Addr) (L : List (Addr × List Int)) (es : Array (Int × Value)) (ep : Nat) (t : SetTable) : Prop where
  ob : ∃ o, h.get? a = some o ∧ o.ExactSet ∧ o.data = .set es ep t
  rows : es.toList.Perm (rowsOf P w L)
  lay : Lay t L.length
  plain : t.plain = true
  led : w.params.followText "set-order" = true ∨ t.led = true
  room : L.length * 5 < t.mask * 3
section
variable {P : Program} {w : World} {A : Around} {E : Value → Shared → Prop} {s : Shared} {a : Addr} {L : List (Addr × List Int)} {es : Array (Int × Value)} {ep : Nat} {t : SetTable}
end
end GW

namespace GW
open PySem PySem.Spec PyProof.Rows L2
/-- the hash of a tuple of ints -/
def thI (k : List Int) : Int := reduceHash (Builtin.Tuple.tupleHashOf (k.map hashInt))
section
variable {P : Program} {w : World} {A : Around} {E : Value → Shared → Prop} {s : Shared}
theorem Wid.keep {h h' : Heap} {a : Addr} {L : List (Addr × List Int)} {es : Array (Int × Value)} {ep : Nat} {t : SetTable} (R : Wid P w h a L es ep t) (ha : ∀ o, h.get? a = some o → h'.get? a = some o) : Wid P w h' a L es ep t := by
  obtain ⟨o, ho, r⟩ := R.ob
  exact ⟨⟨o, ha o ho, r⟩, R.rows, R.lay, R.plain, R.led, R.room⟩
end
end GW

namespace GW
open PySem PySem.Spec PyProof.Rows L2
/-- len(set(xs)): up to 63 tuples of ints, or up to 1000 without two hashes alike -/
def tLenSetW (K : PySem.W.Frag) (ta : TE) : TE := fun σ H Q => ta σ H fun x H1 => ∃ (l : Addr) (ks : List (Addr × List Int)), x = .ref l ∧ SqL K H1 l (ks.map fun p => V.ref p.1) ∧ (∀ p ∈ ks, SqT K H1 p.1 (p.2.map V.int)) ∧
  ((ks.length < 64 ∧ ∀ L : List (Addr × List Int), (∀ p ∈ L, p ∈ ks) → (∀ p ∈ ks, p.2 ∈ L.map (·.2)) → (L.map (·.2)).Nodup → Q (.int (L.length : Nat)) H1) ∨
   (ks.length ≤ 1000 ∧ (ks.map fun p => thI p.2).Nodup ∧ Q (.int (ks.length : Nat)) H1))
/-! #### the hashes of the ties of up to 40 places -/
def chk : List Nat → Nat → Bool
  | [], _ => true
  | x :: xs, acc => !acc.testBit x && chk xs (acc ||| (1 <<< x))
theorem chk_spec : ∀ {xs : List Nat} {acc : Nat}, chk xs acc = true → xs.Nodup ∧ ∀ x ∈ xs, acc.testBit x = false
  | [], _, _ => ⟨List.nodup_nil, fun _ h => nomatch h⟩
  | x :: xs, acc, h => by
    have h := (Bool.and_eq_true _ _).mp h
    obtain ⟨h1, h2⟩ := chk_spec h.2
    have hx : acc.testBit x = false := by simpa using h.1
    refine ⟨List.nodup_cons.mpr ⟨fun hm => ?_, h1⟩, fun y hy => ?_⟩
    · have := h2 x hm
      rw [Nat.testBit_or, Nat.testBit_shiftLeft] at this
      simp at this
    · rcases List.mem_cons.mp hy with e | hy
      · rw [e]; exact hx
      · have := h2 y hy
        rw [Nat.testBit_or, Bool.or_eq_false_iff] at this
        exact this.1
def keyN (h : Int) : Nat := (h % 100000).toNat
def pairsN : List (Nat × Nat) := (List.range 40).flatMap fun v => (List.range v).map fun u => (u, v)
def keyP (p : Nat × Nat) : Nat := keyN (thI [(p.1 : Int), (p.2 : Int)])
theorem keys_ok : chk (pairsN.map keyP) 0 = true := by decide +kernel
theorem pairs_len : pairsN.length = 780 := by decide +kernel
theorem inj_of {α β : Type} {f : α → β} : ∀ {l : List α}, (l.map f).Nodup → ∀ a ∈ l, ∀ b ∈ l, f a = f b → a = b
  | x :: l, h, a, ha, b, hb, e => by
    obtain ⟨h1, h2⟩ := List.nodup_cons.mp h
    rcases List.mem_cons.mp ha with za | za
    · rcases List.mem_cons.mp hb with zb | zb
      · rw [za, zb]
      · exact absurd (List.mem_map.mpr ⟨b, zb, by rw [← e, za]⟩) h1
    · rcases List.mem_cons.mp hb with zb | zb
      · exact absurd (List.mem_map.mpr ⟨a, za, by rw [e, zb]⟩) h1
      · exact inj_of h2 a za b zb e
/-- ties of at most 40 places -/
def Narrow (ts : List (Int × Int)) : Prop := ∀ t ∈ ts, 0 ≤ t.1 ∧ t.1 < t.2 ∧ t.2 < 40
theorem narrow_in {t : Int × Int} (h : 0 ≤ t.1 ∧ t.1 < t.2 ∧ t.2 < 40) : (t.1.toNat, t.2.toNat) ∈ pairsN ∧ t = (((t.1.toNat : Nat) : Int), ((t.2.toNat : Nat) : Int)) := by
  refine ⟨List.mem_flatMap.mpr ⟨t.2.toNat, List.mem_range.mpr (by omega), List.mem_map.mpr ⟨t.1.toNat, List.mem_range.mpr (by omega), rfl⟩⟩, ?_⟩
  refine Prod.ext ?_ ?_
  · show t.1 = _; omega
  · show t.2 = _; omega
theorem narrow_eq {s t : Int × Int} (hs : 0 ≤ s.1 ∧ s.1 < s.2 ∧ s.2 < 40) (ht : 0 ≤ t.1 ∧ t.1 < t.2 ∧ t.2 < 40) (e : (s.1.toNat, s.2.toNat) = (t.1.toNat, t.2.toNat)) : s = t := by
  injection e with e1 e2
  exact Prod.ext (by omega) (by omega)
theorem hash_inj {s t : Int × Int} (hs : 0 ≤ s.1 ∧ s.1 < s.2 ∧ s.2 < 40) (ht : 0 ≤ t.1 ∧ t.1 < t.2 ∧ t.2 < 40) (e : thI [s.1, s.2] = thI [t.1, t.2]) : s = t := by
  obtain ⟨a1, a2⟩ := narrow_in hs
  obtain ⟨b1, b2⟩ := narrow_in ht
  have := inj_of (chk_spec keys_ok).1 _ a1 _ b1 (by
    show keyN (thI [((s.1.toNat : Nat) : Int), ((s.2.toNat : Nat) : Int)]) = keyN (thI [((t.1.toNat : Nat) : Int), ((t.2.toNat : Nat) : Int)])
    rw [show ((s.1.toNat : Nat) : Int) = s.1 by omega, show ((s.2.toNat : Nat) : Int) = s.2 by omega, show ((t.1.toNat : Nat) : Int) = t.1 by omega, show ((t.2.toNat : Nat) : Int) = t.2 by omega, e])
  exact narrow_eq hs ht this
theorem narrow_len {ts : List (Int × Int)} (h : Narrow ts) (nd : ts.Nodup) : ts.length ≤ 780 := by
  have key : ∀ (l : List (Int × Int)) (D : List (Nat × Nat)), l.Nodup → (∀ t ∈ l, 0 ≤ t.1 ∧ t.1 < t.2 ∧ t.2 < 40) → (∀ t ∈ l, (t.1.toNat, t.2.toNat) ∈ D) → l.length ≤ D.length := by
    intro l
    induction l with
    | nil => intro D _ _ _; exact Nat.zero_le _
    | cons x l ih =>
      intro D nd hn hD
      obtain ⟨h1, h2⟩ := List.nodup_cons.mp nd
      have hx := hD x List.mem_cons_self
      have := ih (D.erase (x.1.toNat, x.2.toNat)) h2 (fun t ht => hn t (List.mem_cons_of_mem _ ht)) fun t ht => (List.mem_erase_of_ne fun e => h1 (narrow_eq (hn t (List.mem_cons_of_mem _ ht)) (hn x List.mem_cons_self) e ▸ ht)).mpr (hD t (List.mem_cons_of_mem _ ht))
      rw [List.length_erase_of_mem hx] at this
      have := List.length_pos_of_mem hx
      rw [List.length_cons]
      omega
  rw [← pairs_len]
  exact key ts pairsN nd h fun t ht => (narrow_in (h t ht)).1
end GW
namespace G
open PySem L2
section
variable {K : PySem.W.Frag} {Γ : Ga} {k : Gp → Ga → Prop} {te : TE}
theorem lenSet_count {ks L : List (Addr × List Int)} {ts : List (Int × Int)} (e2 : ks.map (·.2) = ts.map (fun t => [t.1, t.2])) (h1 : ∀ p ∈ L, p ∈ ks) (h2 : ∀ p ∈ ks, p.2 ∈ L.map (·.2)) (h3 : (L.map (·.2)).Nodup) :
    L.length ≤ ts.length ∧ (L.length = ts.length ↔ ts.Nodup) := by
  have inj : ∀ {s t : Int × Int}, [s.1, s.2] = [t.1, t.2] → s = t := fun {s t} e => by
    simp at e
    exact Prod.ext e.1 e.2
  have hsub : ∀ x ∈ L.map (·.2), x ∈ ts.map (fun t => [t.1, t.2]) := fun x hx => by
    obtain ⟨p, hp, rfl⟩ := List.mem_map.mp hx
    rw [← e2]
    exact List.mem_map.mpr ⟨p, h1 p hp, rfl⟩
  have hsup : ∀ x ∈ ts.map (fun t => [t.1, t.2]), x ∈ L.map (·.2) := fun x hx => by
    rw [← e2] at hx
    obtain ⟨p, hp, rfl⟩ := List.mem_map.mp hx
    exact h2 p hp
  have hle := nodup_len _ _ h3 hsub
  rw [List.length_map, List.length_map] at hle
  refine ⟨hle, fun e => Decidable.byContradiction fun hn => ?_, fun hn => ?_⟩
  · have key : ∀ us : List (Int × Int), ¬ us.Nodup → ∃ us' : List (Int × Int), us'.length < us.length ∧ ∀ x ∈ us, x ∈ us' := fun us => by
      induction us with
      | nil => intro h; exact absurd List.nodup_nil h
      | cons a us ih =>
        intro h
        by_cases hm : a ∈ us
        · exact ⟨us, by simp, fun x hx => by
            rcases List.mem_cons.mp hx with e | hx
            · rw [e]; exact hm
            · exact hx⟩
        · obtain ⟨us', h1, h2⟩ := ih fun z => h (List.nodup_cons.mpr ⟨hm, z⟩)
          exact ⟨a :: us', by simpa using h1, fun x hx => by
            rcases List.mem_cons.mp hx with e | hx
            · simp [e]
            · simp [h2 x hx]⟩
    obtain ⟨us', h4, h5⟩ := key ts hn
    have := nodup_len _ (us'.map fun t => [t.1, t.2]) h3 fun x hx => by
      obtain ⟨t, ht, rfl⟩ := List.mem_map.mp (hsub x hx)
      exact List.mem_map.mpr ⟨t, h5 t ht, rfl⟩
    rw [List.length_map, List.length_map] at this
    omega
  · have := nodup_len (ts.map fun t => [t.1, t.2]) (L.map (·.2)) (List.Pairwise.map _ (fun a b hab e => hab (inj e)) hn) hsup
    rw [List.length_map, List.length_map] at this
    omega
/-- len(set(ties)): as many as there are different ones; up to 63, or different ones of at most 40 places -/
theorem we_lenSetW (h : WQ te Γ fun q Γ1 => ∃ ts : List (Int × Int), q = dP (.list (ts.map tieD)) ∧ (ts.length < 64 ∨ (GW.Narrow ts ∧ ts.Nodup)) ∧ ∀ m : Nat, m ≤ ts.length → (m = ts.length ↔ ts.Nodup) → k (dat (.int m)) Γ1) : WE (GW.tLenSetW K te) Γ k := by
  intro ω σ H S Q f
  refine h ω σ H S _ fun v q Γ1 ω1 H1 ⟨ts, e, hl, hk⟩ S1 p f1 => ?_
  subst e
  obtain ⟨a, xs, rfl, ha, hd⟩ := DR.lst_inv p
  obtain ⟨ks, rfl, e2, hks⟩ := ties_keys hd
  have hlen : ks.length = ts.length := by
    have := congrArg List.length e2
    simpa using this
  refine ⟨a, ks, rfl, SqL.of (vw_H ha), fun p hp => SqT.of (vw_H (hks p hp)), ?_⟩
  rcases hl with hl | ⟨hw, hn⟩
  · refine .inl ⟨by omega, fun L h1 h2 h3 => ?_⟩
    obtain ⟨c1, c2⟩ := lenSet_count e2 h1 h2 h3
    exact f _ _ Γ1 ω1 H1 (hk L.length c1 c2) S1 (DR.int _) f1
  · refine .inr ⟨by have := GW.narrow_len hw hn; omega, ?_, ?_⟩
    · have e3 : (ks.map fun p => GW.thI p.2) = ts.map fun t => GW.thI [t.1, t.2] := by
        rw [show (ks.map fun p => GW.thI p.2) = (ks.map (·.2)).map GW.thI by rw [List.map_map]; rfl, e2, List.map_map]
        rfl
      rw [e3]
      refine List.pairwise_map.mpr ?_
      have both : ∀ l : List (Int × Int), l.Nodup → (∀ t ∈ l, t ∈ ts) → l.Pairwise fun s t => GW.thI [s.1, s.2] ≠ GW.thI [t.1, t.2] := by
        intro l
        induction l with
        | nil => intro _ _; exact .nil
        | cons x l ih =>
          intro nd hs
          obtain ⟨n1, n2⟩ := List.nodup_cons.mp nd
          exact List.pairwise_cons.mpr ⟨fun y hy e => n1 (GW.hash_inj (hw x (hs x List.mem_cons_self)) (hw y (hs y (List.mem_cons_of_mem _ hy))) e ▸ hy), ih n2 fun t ht => hs t (List.mem_cons_of_mem _ ht)⟩
      exact both ts hn fun t ht => ht
    · rw [hlen]
      exact f _ _ Γ1 ω1 H1 (hk ts.length (Nat.le_refl _) ⟨fun _ => hn, fun _ => rfl⟩) S1 (DR.int _) f1
end
end G

/-! ### own things looked at as they stand; lists of fresh lists; each list grown by one -/
namespace G
open PySem L2
/-- the slots of Γ as they stand: what may be looked at -/
def Still (Γ Γ0 : Ga) : Prop := Γ0.length = Γ.length ∧ ∀ (i : Nat) (g0 : Gp), Γ0[i]? = some (some g0) → ∃ g q, Γ[i]? = some (some g) ∧ Frz g q ∧ g0 = per q
theorem we_still {Γ Γ0 : Ga} {k : Gp → Ga → Prop} {te : TE} (s : Still Γ Γ0) (h : WE te Γ0 fun g _ => ∃ d, g = dat d ∧ scal d = true ∧ k (dat d) Γ) : WE te Γ k := fun ω σ H S Q f => by
  classical
  let ω0 : Col := fun a => if ω a = 1 then 1 else 0
  have c0 : ∀ c, c ≠ 1 → Same (vw ω H c) (vw ω0 H 0) := fun c hc a o z => vw_mk (by
    show (if ω a = 1 then 1 else 0) = 0
    rw [if_neg (by rw [vw_c z]; exact hc)]) (vw_H z)
  have S0 : Sta Γ0 ω0 σ H := ⟨by rw [s.1]; exact S.1, fun i g0 hi => by
    obtain ⟨g, q, hg, fz, rfl⟩ := s.2 i g0 hi
    obtain ⟨v, e, p⟩ := S.2 i g hg
    exact ⟨v, e, fz _ _ _ _ (c0 0 (by decide)) (c0 _ (by omega)) p⟩⟩
  refine h ω0 σ H S0 _ fun v g Γ' ω' H' ⟨d, eg, hd, hk⟩ S' p fr => ?_
  subst eg
  let ω2 : Col := fun a => if (H a).isSome then ω a else 1
  have keep : ∀ c, Same (vw ω H c) (vw ω2 H' c) := fun c a o z => by
    have hH := vw_H z
    have hc := vw_c z
    refine vw_mk (by show (if (H a).isSome then ω a else 1) = c; rw [hH]; exact hc) ?_
    by_cases h1 : ω a = 1
    · exact vw_H (fr.2 a o (vw_mk (by show (if ω a = 1 then 1 else 0) = 1; rw [if_pos h1]) hH))
    · exact vw_H (fr.1 a o (vw_mk (by show (if ω a = 1 then 1 else 0) = 0; rw [if_neg h1]) hH))
  exact f v (dat d) Γ ω2 H' hk (S.move (keep 0) fun i _ _ => keep _) (DR.scal hd p) ⟨keep 0, keep 1⟩
section
variable {K : PySem.W.Frag} {P : Nat → Bool} {Γ : Ga} {D : Pe} {k : Gp → Ga → Prop} {te : TE} {g : TG}
/-- [e for .. in ..], each e a fresh list -/
theorem we_lcO {wi : TI} {vs : List Nat} (Pv : Nat → List (List PyData) → Ga → Prop) (h : WI wi Γ fun n it Γ1 => n < 100000 ∧ Pv 0 [] Γ1 ∧ (∀ dss Γ2, Pv n dss Γ2 → k (own2 dss) Γ2) ∧ ∀ i dss Γ2, i < n → Pv i dss Γ2 → Γ2.length = Γ.length →
    WG (fun i => !vs.contains i) g (it i) (wipeG Γ2 vs) fun Γ3 => WE te Γ3 fun g Γ4 => ∃ ds, g = own ds ∧ Pv (i + 1) (dss ++ [ds]) (wipeG Γ4 vs)) :
    WE (tLc wi g tYes te vs) Γ k := fun ω σ H S Q f => h ω σ H S _ fun J n it Γ1 ω1 H1 ⟨hn, h0, hd, hs⟩ S1 W f1 => by
  intro L hL
  have hlen : ∀ {Γ2 : Ga} {ω2 : Col} {σ2 : L2.St} {H2 : Hp}, Sta Γ2 ω2 σ2 H2 → σ2.length = σ.length → Γ2.length = Γ.length := fun {Γ2 ω2 σ2 H2} S2 e => by rw [← S2.1, e, S.1]
  refine ⟨fun i μ H' => μ = n - i ∧ i ≤ n ∧ ∃ bs dss Γ2 ω2, Pv i dss Γ2 ∧ Sta Γ2 ω2 σ H' ∧ Fr ω1 ω2 H1 H' ∧ (ω2 L = 1 ∧ H' L = some (.lst (bs.map V.ref))) ∧ bs.length = i ∧ (L :: bs).Nodup ∧ In2 (vw ω2 H' 0) (vw ω2 H' 1) bs dss ∧ ∀ a o, vw ω1 H1 1 a = some o → a ∉ L :: bs,
    ⟨n, by simp, Nat.zero_le _, [], [], Γ1, paint ω1 L 1, h0, S1.new 1 hL, paint_fr hL, ⟨by unfold paint; rw [if_pos rfl], upd_same⟩, rfl, by simp, ⟨rfl, fun i b ds e _ => by simp at e⟩, fun a o z => by simpa using ne_of_none (vw_H z) hL⟩, ?_⟩
  rintro i μ H' ⟨rfl, hi, bs, dss, Γ2, ω2, p2, S2, f2, ⟨c2, e2⟩, l2, n2, b2, a2⟩
  have sA : Same (vw ω1 H1 0) H' := fun a o e => vw_H (f2.1 a o e)
  by_cases hlt : i < n
  · refine .inr ⟨((W i H' sA).1 hlt).1, fun H'' => ∃ bs dss Γ2 ω2, Pv (i + 1) dss Γ2 ∧ Sta Γ2 ω2 σ H'' ∧ Fr ω1 ω2 H1 H'' ∧ (ω2 L = 1 ∧ H'' L = some (.lst (bs.map V.ref))) ∧ bs.length = i + 1 ∧ (L :: bs).Nodup ∧ In2 (vw ω2 H'' 0) (vw ω2 H'' 1) bs dss ∧ ∀ a o, vw ω1 H1 1 a = some o → a ∉ L :: bs,
      fun H'' z => ⟨n - (i + 1), by omega, rfl, hlt, z⟩, fun x H'' y => ?_⟩
    obtain ⟨ω3, S3, f3, q3⟩ := yld_ok W rfl f2 S2 hlt y
    refine hs i dss Γ2 hlt p2 (hlen S2 rfl) ω3 _ H'' x (S3.wipe vs) q3 _ fun Γ4 ω4 σ4 H4 h4 S4 f4 q4 => ?_
    obtain ⟨_, ew⟩ := S4.unwipe q4
    refine ⟨ew, ?_⟩
    unfold tYes
    refine iteT ?_
    refine h4 ω4 σ4 H4 S4 _ fun v g5 Γ5 ω5 H5 ⟨ds, eg, hP⟩ S5 p5 f5 => ?_
    subst eg
    obtain ⟨b, ys, rfl, hb, hds⟩ := p5
    obtain ⟨S6, _⟩ := S5.unwipe q4
    have f25 : Fr ω2 ω5 H' H5 := (f3.trans f4).trans f5
    have zL := f25.2 L _ (vw_mk c2 e2)
    have z2 := b2.mono f25.1 f25.2
    have cb := vw_c hb
    have nL : L ≠ b := fun e => by rw [← e, vw_c zL] at cb; cases cb
    have nb : ∀ b' ∈ bs, b' ≠ b := fun b' hb' e => by
      obtain ⟨t, ht⟩ := List.getElem?_of_mem hb'
      obtain ⟨d', hd'⟩ : ∃ d', dss[t]? = some d' := ⟨dss[t]'(by rw [← z2.1]; exact (List.getElem?_eq_some_iff.mp ht).1), by simp⟩
      obtain ⟨ys', h1, _⟩ := z2.2 t b' d' ht hd'
      rw [← e, vw_c h1] at cb
      cases cb
    have f15 : Fr ω1 ω5 H1 H5 := f2.trans f25
    let ω6 : Col := paint ω5 b 1
    have pn : ∀ c, c ≠ 2 → Same (vw ω5 H5 c) (vw ω6 H5 c) := fun c hc a o z => by
      have : a ≠ b := fun e => hc (by rw [← vw_c z, e, cb])
      exact vw_mk (by show paint ω5 b 1 a = c; unfold paint; rw [if_neg this]; exact vw_c z) (vw_H z)
    have cL : ω6 L = 1 := by show paint ω5 b 1 L = 1; unfold paint; rw [if_neg nL]; exact vw_c zL
    have m0 : ∀ c, c ≠ 1 → Same (vw ω6 H5 c) (vw ω6 (upd H5 L (.lst (bs.map V.ref ++ [.ref b]))) c) := fun c hc => mut_same (by rw [cL]; exact Ne.symm hc)
    refine ⟨bs.map V.ref, vw_H zL, by rw [List.length_map, l2]; exact Nat.lt_of_lt_of_le (by omega : i < 100000) (by decide), bs ++ [b], dss ++ [ds], _, ω6, hP, ?_, ?_, ⟨cL, ?_⟩, by simp [l2], ?_, ?_, ?_⟩
    · exact S6.move ((pn 0 (by decide)).trans (m0 0 (by decide))) fun j _ _ => (pn _ (by omega)).trans (m0 _ (by omega))
    · refine ⟨(f15.1.trans (pn 0 (by decide))).trans (m0 0 (by decide)), fun a o z => ?_⟩
      have z' := (pn 1 (by decide)) a o (f15.2 a o z)
      have h2 : a ≠ L := fun e => a2 a o z (by simp [e])
      exact vw_mk (vw_c z') (by rw [upd_ne h2]; exact vw_H z')
    · rw [upd_same]
      simp
    · rw [List.nodup_cons] at n2 ⊢
      refine ⟨by simp [n2.1, nL], List.nodup_append.mpr ⟨n2.2, by simp, fun a ha b' hb' => ?_⟩⟩
      rw [List.mem_singleton.mp hb']
      exact nb a ha
    · refine ⟨by simp [z2.1], fun t b' d' e1 e3 => ?_⟩
      have s0 := (pn 0 (by decide)).trans (m0 0 (by decide))
      by_cases ht : t < bs.length
      · rw [List.getElem?_append_left ht] at e1
        rw [List.getElem?_append_left (by rw [← z2.1]; exact ht)] at e3
        obtain ⟨ys', h1, h3⟩ := z2.2 t b' d' e1 e3
        have hne : b' ≠ L := fun e => (List.nodup_cons.mp n2).1 (e ▸ List.mem_of_getElem? e1)
        have h1' := (pn 1 (by decide)) _ _ h1
        exact ⟨ys', vw_mk (vw_c h1') (by rw [upd_ne hne]; exact vw_H h1'), h3.mono s0⟩
      · have et : t = bs.length := by
          have := (List.getElem?_eq_some_iff.mp e1).1
          rw [List.length_append] at this
          have : t < bs.length + 1 := this
          omega
        subst et
        rw [List.getElem?_append_right (Nat.le_refl _), Nat.sub_self] at e1
        rw [z2.1, List.getElem?_append_right (Nat.le_refl _), Nat.sub_self] at e3
        cases e1
        cases e3
        exact ⟨ys, vw_mk (by show paint ω5 b 1 b = 1; unfold paint; rw [if_pos rfl]) (by rw [upd_ne (Ne.symm nL)]; exact vw_H hb), hds.mono s0⟩
    · intro a o z hm
      rcases List.mem_cons.mp hm with e | hm
      · exact a2 a o z (by simp [e])
      · rcases List.mem_append.mp hm with hm | hm
        · exact a2 a o z (by simp [hm])
        · rw [List.mem_singleton.mp hm] at z
          have := vw_c (f15.2 _ _ z)
          rw [cb] at this
          cases this
  · have e : i = n := by omega
    subst e
    refine .inl ⟨(W i H' sA).2 (Nat.le_refl _), ?_⟩
    let ω3 : Col := fun b => if b ∈ L :: bs then 2 else ω2 b
    have c1 : ∀ b ∈ L :: bs, ω2 b = 1 := fun b hb => by
      rcases List.mem_cons.mp hb with e | hb
      · rw [e]; exact c2
      · obtain ⟨t, ht⟩ := List.getElem?_of_mem hb
        obtain ⟨d', hd'⟩ : ∃ d', dss[t]? = some d' := ⟨dss[t]'(by rw [← b2.1]; exact (List.getElem?_eq_some_iff.mp ht).1), by simp⟩
        obtain ⟨ys', h1, _⟩ := b2.2 t b d' ht hd'
        exact vw_c h1
    have pn : ∀ c, c ≠ 1 → Same (vw ω2 H' c) (vw ω3 H' c) := fun c hc a o z => by
      refine vw_mk ?_ (vw_H z)
      show (if _ then _ else _) = c
      rw [if_neg]
      · exact vw_c z
      · intro e
        exact hc ((vw_c z).symm.trans (c1 a e))
    refine f (.ref L) (own2 dss) Γ2 ω3 H' (hd dss Γ2 p2) (S2.move (pn 0 (by decide)) fun i _ _ => pn _ (by omega)) ⟨L, bs, rfl, vw_mk (by show (if _ then _ else _) = _; rw [if_pos (by simp)]) e2, n2, b2.1, fun j b ds e1 e3 => ?_⟩ (f1.trans ⟨f2.1.trans (pn 0 (by decide)), fun a o z => ?_⟩)
    · obtain ⟨ys, h1, h3⟩ := b2.2 j b ds e1 e3
      exact ⟨ys, vw_mk (by show (if _ then _ else _) = _; rw [if_pos (by simp [List.mem_of_getElem? e1])]) (vw_H h1), h3.mono (pn 0 (by decide))⟩
    · have z' := f2.2 a o z
      refine vw_mk ?_ (vw_H z')
      show (if _ then _ else _) = _
      rw [if_neg (a2 a o z)]
      exact vw_c z'
/-- for r in xs: r.append(y), xs a list of lists of one's own -/
theorem ws_forApp {i p r : Nat} {dss : List (List PyData)} {d : PyData} (hi : Γ[i]? = some (some (own2 dss))) (hp : Γ[p]? = some (some (dat d))) (hr : r < Γ.length) (ir : i ≠ r) (pr : p ≠ r) (ip : i ≠ p) (Pr : P r = false)
    (hl : ∀ ds ∈ dss, ds.length < 90000) (hk : D.nx ((Γ.set i (some (own2 (dss.map (· ++ [d]))))).set r none)) :
    WS P (tFor (iList K (tVar i)) (gName r) (tDrop (tBM K "list" rAppend (tVar r) (tCons (tVar p) tNil)))) Γ D := fun ω σ H S E m => by
  obtain ⟨v, ev, a, bs, rfl, ha, nd, hb⟩ := S.2 i _ hi
  obtain ⟨y, ey, hy⟩ := S.2 p _ hp
  have hla := hb.1
  have lr : r < σ.length := by rw [S.1]; exact hr
  obtain ⟨nd1, nd2⟩ := List.nodup_cons.mp nd
  have old : ∀ (t : Nat) (b : Addr), bs[t]? = some b → ∃ ds, dss[t]? = some ds ∧ ds ∈ dss ∧ ω b = i + 3 := fun t b e => by
    have ht : t < dss.length := by rw [← hla]; exact (List.getElem?_eq_some_iff.mp e).1
    obtain ⟨ys, h1, _⟩ := hb.2 t b dss[t] e (List.getElem?_eq_getElem ht)
    exact ⟨dss[t], List.getElem?_eq_getElem ht, List.getElem_mem ht, vw_c h1⟩
  refine ⟨_, ev, a, rfl, ⟨_, SqL.of (vw_H ha)⟩, ?_⟩
  refine ⟨fun j μ σ' H' => μ = bs.length - j ∧ j ≤ bs.length ∧ σ'.length = σ.length ∧ (∀ t : Nat, t ≠ r → σ'[t]? = σ[t]?) ∧ (∀ c, c ≠ i + 3 → Same (vw ω H c) (vw ω H' c)) ∧ H' a = some (.lst (bs.map V.ref)) ∧
      ∀ (t : Nat) (b : Addr) (ds : List PyData), bs[t]? = some b → dss[t]? = some ds → ∃ ys, H' b = some (.lst ys) ∧ DRs (vw ω H' 0) ys (if t < j then ds ++ [d] else ds),
    ⟨bs.length, by simp, Nat.zero_le _, rfl, fun _ _ => rfl, fun _ _ => Same.refl _, vw_H ha, fun t b ds e1 e2 => by
      obtain ⟨ys, h1, h2⟩ := hb.2 t b ds e1 e2
      exact ⟨ys, vw_H h1, by rw [if_neg (by omega)]; exact h2⟩⟩, ?_⟩
  rintro j μ σ' H' ⟨rfl, hj, q1, q2, q3, q4, q5⟩
  by_cases hlt : j < bs.length
  · refine .inr ⟨⟨_, .ref bs[j], SqL.of q4, by simp [hlt]⟩, fun σ'' H'' => j + 1 ≤ bs.length ∧ σ''.length = σ.length ∧ (∀ t : Nat, t ≠ r → σ''[t]? = σ[t]?) ∧ (∀ c, c ≠ i + 3 → Same (vw ω H c) (vw ω H'' c)) ∧ H'' a = some (.lst (bs.map V.ref)) ∧
      ∀ (t : Nat) (b : Addr) (ds : List PyData), bs[t]? = some b → dss[t]? = some ds → ∃ ys, H'' b = some (.lst ys) ∧ DRs (vw ω H'' 0) ys (if t < j + 1 then ds ++ [d] else ds), fun σ'' H'' z => ⟨bs.length - (j + 1), by omega, rfl, z⟩, fun x H'' yl => ?_⟩
    obtain ⟨rfl, yl⟩ := yl
    have hx := yl _ (SqL.of q4)
    have hbj : bs[j]? = some bs[j] := List.getElem?_eq_getElem hlt
    rw [List.getElem?_map, hbj] at hx
    cases hx
    obtain ⟨ds, hds, hdm, cb⟩ := old j _ hbj
    obtain ⟨ys, hys, hd⟩ := q5 j _ ds hbj hds
    rw [if_neg (by omega)] at hd
    have hab : a ≠ bs[j] := fun e => nd1 (e ▸ List.getElem_mem hlt)
    have y2 : (σ'.set r (some (.ref bs[j])))[p]? = some (some y) := by rw [List.getElem?_set_ne (Ne.symm pr), q2 p pr]; exact ey
    have m0 : ∀ c, c ≠ i + 3 → Same (vw ω H'' c) (vw ω (upd H'' bs[j] (.lst (ys ++ [y]))) c) := fun c hc => mut_same (by rw [cb]; exact Ne.symm hc)
    refine ⟨.ref bs[j], by rw [List.getElem?_set_self (by rw [q1]; exact lr)], .inl ⟨rfl, ys, SqL.of hys⟩, y, y2, bs[j], ys, y, rfl, rfl, hys, by rw [hd.length]; exact Nat.lt_of_lt_of_le (hl ds hdm) (by decide), hlt, by rw [List.length_set]; exact q1, fun t ht => by rw [List.getElem?_set_ne (Ne.symm ht)]; exact q2 t ht, fun c hc => (q3 c hc).trans (m0 c hc), by rw [upd_ne hab]; exact q4, fun t b ds' e1 e2 => ?_⟩
    by_cases htj : t = j
    · subst htj
      rw [hbj] at e1
      cases e1
      rw [hds] at e2
      cases e2
      refine ⟨_, upd_same, ?_⟩
      rw [if_pos (by omega)]
      exact (hd.mono (m0 0 (by omega))).snoc (DR.mono ((q3 0 (by omega)).trans (m0 0 (by omega))) d hy)
    · obtain ⟨zs, h1, h2⟩ := q5 t b ds' e1 e2
      have hne : b ≠ bs[j] := fun e => by
        have ht := (List.getElem?_eq_some_iff.mp e1).1
        exact htj ((List.getElem?_inj (i := t) (j := j) ht nd2).mp (e1.trans (e ▸ hbj.symm)))
      refine ⟨zs, by rw [upd_ne hne]; exact h1, ?_⟩
      have : (if t < j + 1 then ds' ++ [d] else ds') = if t < j then ds' ++ [d] else ds' := by
        by_cases h : t < j
        · rw [if_pos h, if_pos (by omega)]
        · rw [if_neg h, if_neg (by omega)]
      rw [this]
      exact h2.mono (m0 0 (by omega))
  · have e : j = bs.length := by omega
    subst e
    refine .inl ⟨⟨_, SqL.of q4, by rw [List.length_map]; exact Nat.le_refl _⟩, ?_⟩
    refine m.nx _ ω σ' H' hk ⟨by rw [List.length_set, List.length_set, q1]; exact S.1, fun t g ht => ?_⟩ ⟨q3 0 (by omega), q3 1 (by omega)⟩ ⟨q1, fun t ht => ?_⟩
    · rw [List.getElem?_set] at ht
      by_cases htr : r = t
      · subst htr
        rw [if_pos rfl] at ht
        split at ht <;> cases ht
      · rw [if_neg htr, List.getElem?_set] at ht
        by_cases hti : i = t
        · subst hti
          rw [if_pos rfl] at ht
          split at ht
          · cases ht
            refine ⟨.ref a, by rw [q2 _ ir]; exact ev, a, bs, rfl, vw_mk (vw_c ha) q4, nd, by rw [List.length_map]; exact hla, fun u b ds e1 e2 => ?_⟩
            rw [List.getElem?_map] at e2
            obtain ⟨ds0, h0, _, cb⟩ := old u b e1
            rw [h0] at e2
            cases e2
            obtain ⟨ys, h1, h2⟩ := q5 u b ds0 e1 h0
            rw [if_pos (List.getElem?_eq_some_iff.mp e1).1] at h2
            exact ⟨ys, vw_mk cb h1, h2⟩
          · cases ht
        · rw [if_neg hti] at ht
          obtain ⟨w, e1, e2⟩ := S.2 t g ht
          exact ⟨w, by rw [q2 t (Ne.symm htr)]; exact e1, g.mono (q3 0 (by omega)) (q3 _ (by omega)) e2⟩
    · exact q2 t fun e => by rw [e, Pr] at ht; cases ht
end
inductive StillL : Ga → Ga → Prop
  | nil : StillL [] []
  | non {o : Option Gp} {Γ Γ0 : Ga} : StillL Γ Γ0 → StillL (o :: Γ) (none :: Γ0)
  | per {q : Per} {Γ Γ0 : Ga} : StillL Γ Γ0 → StillL (some (per q) :: Γ) (some (per q) :: Γ0)
  | frz {g : Gp} {q : Per} {Γ Γ0 : Ga} : Frz g q → StillL Γ Γ0 → StillL (some g :: Γ) (some (per q) :: Γ0)
theorem StillL.still : ∀ {Γ Γ0 : Ga}, StillL Γ Γ0 → Still Γ Γ0
  | _, _, .nil => ⟨rfl, fun i g0 h => by simp at h⟩
  | _, _, .non t => ⟨by simp [t.still.1], fun i g0 h => by
    match i, h with
    | 0, h => cases h
    | i + 1, h => exact t.still.2 i g0 (by simpa using h)⟩
  | _, _, .per t => ⟨by simp [t.still.1], fun i g0 h => by
    match i, h with
    | 0, h => cases h; exact ⟨_, _, rfl, frz_per, rfl⟩
    | i + 1, h => exact t.still.2 i g0 (by simpa using h)⟩
  | _, _, .frz z t => ⟨by simp [t.still.1], fun i g0 h => by
    match i, h with
    | 0, h => cases h; exact ⟨_, _, rfl, z, rfl⟩
    | i + 1, h => exact t.still.2 i g0 (by simpa using h)⟩
end G

/-! ### an own list lent for an expression that makes a list of pairs; an own list handed to a constructor -/
namespace G
open PySem L2
section
variable {K : PySem.W.Frag} {Γ Γ0 : Ga} {k : Gp → Ga → Prop} {te : TE} {tr : TA} {C : Addr} {E : XK} {F : Fw}
end
end G

namespace G
open PySem L2
local macro_rules | `(tactic| walk_at "g1") => `(tactic| first
  | (with_reducible show WE _ _ _; with_reducible first | refine we_var (by with_unfolding_all exact rfl) ?_ | (show WE (tOp _ _ _) _ _; first | refine we_ixS (by with_unfolding_all exact rfl) ?_ | refine we_ixScr (by with_unfolding_all exact rfl) ?_ | refine we_inS (by with_unfolding_all exact rfl) ?_ | refine we_notInS (by with_unfolding_all exact rfl) ?_ | refine we_eqS (by with_unfolding_all exact rfl) ?_ | refine we_neS (by with_unfolding_all exact rfl) ?_ | refine we_opK ?_) | (show WE (tCB _ _) _ _; first | refine we_lenS' (by with_unfolding_all exact rfl) ?_ | refine we_lenScr (by with_unfolding_all exact rfl) ?_ | refine we_cbK ?_) | refine we_int ?_ | refine we_bl ?_ | refine we_non ?_ | refine we_str ?_ | refine we_neg ?_ | refine we_not ?_ | refine we_and ?_ | refine we_or ?_ | refine we_if ?_ | refine we_tup ?_ | refine we_lst ?_ | refine we_call ?_ | refine we_mt (by with_unfolding_all exact rfl) ?_)
  | (with_reducible show WS _ _ _ _; with_reducible first | refine ws_seqA ?_ | refine ws_seqD ?_ | refine ws_asg (by with_unfolding_all exact rfl) ?_ | refine ws_asgG ?_ | refine ws_if ?_ | refine ws_ret ?_ | refine ws_drop ?_ | refine ws_next ?_ | refine ws_retN ?_)
  | (with_reducible show WT _ _ _; with_reducible first | refine wt_test ?_ | refine wt_B ?_ | refine wt_not ?_ | refine wt_and ?_ | refine wt_or ?_ | refine wt_yes ?_)
  | (with_reducible show WA _ _ _; with_reducible first | refine wa_nil ?_ | refine wa_cons (wq_of (we_var (by with_unfolding_all exact rfl) ?_)) | refine wa_slotU (by with_unfolding_all exact rfl) ?_ | refine wa_cons ?_)
  | (with_reducible show OpK _ _ _ _ _; with_reducible first | refine ok_plusI ?_ | refine ok_sub ?_ | refine ok_lt ?_ | refine ok_le ?_ | refine ok_gt ?_ | refine ok_ge ?_ | refine ok_eqI ?_ | refine ok_neI ?_ | refine ok_mod (by first | assumption | decide | omega) ?_ | refine ok_ixL (by with_unfolding_all exact rfl) ?_)
  | (with_reducible show CbK _ _ _ _; with_reducible first | refine ck_lenL ?_ | refine ck_lenT ?_ | refine ck_int ?_ | refine ck_intB ?_ | refine ck_max ?_ | refine ck_min ?_ | refine ck_list ?_)
  | with_reducible refine wq_of ?_
  | (with_reducible show WG _ _ _ _ _; with_reducible first | refine wg_name (by with_unfolding_all exact rfl) ?_ | refine wg_tup (by with_unfolding_all exact rfl) ?_ | refine wg_set (by with_unfolding_all exact rfl) ?_)
  | (with_reducible show WGs _ _ _ _ _; with_reducible first | refine wgs_cons ?_ | refine wgs_nil ?_)
  | with_reducible refine iteT ?_
  | with_reducible refine iteF ?_
  | with_reducible refine ⟨_, frz_per, ?_⟩
  | with_reducible refine ⟨_, frz_own, ?_⟩
  | refine ⟨_, rfl, ?_⟩
  | refine ⟨_, argD1, ?_⟩
  | refine ⟨_, argD2, ?_⟩
  | refine ⟨_, argD0, ?_⟩
  | refine ⟨_, argD3, ?_⟩
  | refine ⟨_, argD4, ?_⟩
  | refine ⟨_, _, rfl, rfl, rfl, ?_⟩
  | refine ⟨_, _, _, rfl, rfl, rfl, ?_⟩
  | refine ⟨(by simp only [List.length_cons, List.length_nil]; decide), ?_⟩
  | refine ⟨rfl, nd1, ?_⟩
  | refine ⟨rfl, nd0, ?_⟩)
local macro_rules | `(tactic| walk_at "go") => `(tactic| repeat walk_at "g1")
local macro_rules | `(tactic| walk_at "g2") => `(tactic| first
  | (with_reducible show WE _ _ _; with_reducible first | refine we_var (by with_unfolding_all exact rfl) ?_ | (show WE (tOp _ _ _) _ _; first | refine we_notN ?_ | refine we_ixS (by with_unfolding_all exact rfl) ?_ | refine we_ixScr (by with_unfolding_all exact rfl) ?_ | refine we_inS (by with_unfolding_all exact rfl) ?_ | refine we_notInS (by with_unfolding_all exact rfl) ?_ | refine we_eqS (by with_unfolding_all exact rfl) ?_ | refine we_neS (by with_unfolding_all exact rfl) ?_ | refine we_opK ?_) | (show WE (tCB _ _) _ _; first | refine we_isInt ?_ | refine we_isBl ?_ | refine we_isLst ?_ | refine we_isTup ?_ | refine we_lenO (by with_unfolding_all exact rfl) ?_ | refine we_lenS' (by with_unfolding_all exact rfl) ?_ | refine we_lenScr (by with_unfolding_all exact rfl) ?_ | refine we_cbK ?_) | refine we_chain ?_ | refine we_slice ?_ | refine we_int ?_ | refine we_bl ?_ | refine we_non ?_ | refine we_str ?_ | refine we_neg ?_ | refine we_not ?_ | refine we_and ?_ | refine we_or ?_ | refine we_if ?_ | refine we_tup ?_ | refine we_lst ?_ | refine we_call ?_ | refine we_mt (by with_unfolding_all exact rfl) ?_)
  | (with_reducible show WS _ _ _ _; with_reducible first | refine ws_seqA ?_ | refine ws_seqD ?_ | refine ws_asg (by with_unfolding_all exact rfl) ?_ | refine ws_asgG ?_ | refine ws_if ?_ | refine ws_ret ?_ | refine ws_drop ?_ | refine ws_next ?_ | refine ws_retN ?_)
  | (with_reducible show WT _ _ _; with_reducible first | refine wt_test ?_ | refine wt_B ?_ | refine wt_not ?_ | refine wt_and ?_ | refine wt_or ?_ | refine wt_yes ?_)
  | (with_reducible show WA _ _ _; with_reducible first | refine wa_nil ?_ | refine wa_cons (wq_of (we_var (by with_unfolding_all exact rfl) ?_)) | refine wa_slotU (by with_unfolding_all exact rfl) ?_ | refine wa_cons ?_)
  | (with_reducible show OpK _ _ _ _ _; with_reducible first | refine ok_isB ?_ | refine ok_notB ?_ | refine ok_plusI ?_ | refine ok_sub ?_ | refine ok_lt ?_ | refine ok_le ?_ | refine ok_gt ?_ | refine ok_ge ?_ | refine ok_eqI ?_ | refine ok_neI ?_ | refine ok_mod (by first | assumption | decide | omega) ?_ | refine ok_ixL (by with_unfolding_all exact rfl) ?_)
  | (with_reducible show CbK _ _ _ _; with_reducible first | refine ck_lenL ?_ | refine ck_lenT ?_ | refine ck_int ?_ | refine ck_intB ?_ | refine ck_max ?_ | refine ck_min ?_ | refine ck_list ?_)
  | with_reducible refine wq_of ?_
  | (with_reducible show WG _ _ _ _ _; with_reducible first | refine wg_name (by with_unfolding_all exact rfl) ?_ | refine wg_tup (by with_unfolding_all exact rfl) ?_ | refine wg_set (by with_unfolding_all exact rfl) ?_)
  | (with_reducible show WGs _ _ _ _ _; with_reducible first | refine wgs_cons ?_ | refine wgs_nil ?_)
  | (with_reducible show WO _ _ _; with_reducible first | refine wo_some ?_ | refine wo_none ?_)
  | refine ⟨_, argD5, ?_⟩
  | refine ⟨_, argD6, ?_⟩
  | refine ⟨_, argD7, ?_⟩
  | refine ⟨_, argD9, ?_⟩
  | with_reducible refine iteT ?_
  | with_reducible refine iteF ?_
  | with_reducible refine ⟨_, frz_per, ?_⟩
  | with_reducible refine ⟨_, frz_own, ?_⟩
  | refine ⟨_, rfl, ?_⟩
  | refine ⟨_, argD1, ?_⟩
  | refine ⟨_, argD2, ?_⟩
  | refine ⟨_, argD0, ?_⟩
  | refine ⟨_, argD3, ?_⟩
  | refine ⟨_, argD4, ?_⟩
  | refine ⟨_, _, rfl, rfl, rfl, ?_⟩
  | refine ⟨_, _, _, rfl, rfl, rfl, ?_⟩
  | refine ⟨(by simp only [List.length_cons, List.length_nil]; decide), ?_⟩
  | refine ⟨rfl, nd1, ?_⟩
  | refine ⟨rfl, nd0, ?_⟩)
local macro_rules | `(tactic| walk_at "g2") => `(tactic| first | with_reducible refine we_isInt ?_ | with_reducible refine we_isBl ?_ | with_reducible refine we_isLst ?_ | with_reducible refine we_isTup ?_ | with_reducible refine we_chain ?_ | with_reducible refine we_lenO (by with_unfolding_all exact rfl) ?_ | with_reducible refine we_lenSetW ?_ | with_reducible refine we_slice ?_ | with_reducible refine wo_some ?_ | with_reducible refine wo_none ?_ | walk_at "g1")
/-- the attributes of a web -/
def webF (n : Nat) (ts : List (Int × Int)) : List (Str × PyData) := [("_ties", .list (ts.map tieD)), ("_near", .list ((nearL n ts).map .list))]
theorem webF_near {n : Nat} {ts : List (Int × Int)} : lookD "_near" (webF n ts) = some (.list ((nearL n ts).map .list)) := by
  show (if ("_ties" : Str) = "_near" then _ else if ("_near" : Str) = "_near" then _ else _) = _
  rw [if_neg (by decide +kernel), if_pos rfl]
theorem webF_ties {n : Nat} {ts : List (Int × Int)} : lookD "_ties" (webF n ts) = some (.list (ts.map tieD)) := by
  show (if ("_ties" : Str) = "_ties" then _ else _) = _
  rw [if_pos rfl]
end G

namespace G
open PySem L2
/-! ### what is tied to a place, by the ties alone -/
/-- the other end at w -/
def oth (w : Int) (t : Int × Int) : Option Int := if t.1 = w then some t.2 else if t.2 = w then some t.1 else none
def nb (ts : List (Int × Int)) (w : Int) : List Int := ts.filterMap (oth w)
def Valid (n : Nat) (ts : List (Int × Int)) : Prop := ∀ t ∈ ts, 0 ≤ t.1 ∧ t.1 < t.2 ∧ t.2 < n
end G

namespace G
inductive Reach (E : Int → Int → Prop) : Int → Int → Prop
  | refl (u : Int) : Reach E u u
  | step {u v x : Int} : Reach E u v → E v x → Reach E u x
section
variable {E : Int → Int → Prop} {n : Nat}
theorem Reach.trans {u v : Int} (h : Reach E u v) {x : Int} (k : Reach E v x) : Reach E u x := by
  induction k with
  | refl => exact h
  | step _ e ih => exact .step ih e
theorem Reach.rng (r : ∀ u v, E u v → 0 ≤ v ∧ v < n) {u v : Int} (h : Reach E u v) (h0 : 0 ≤ u ∧ u < n) : 0 ≤ v ∧ v < n := by
  induction h with
  | refl => exact h0
  | step _ e ih => exact r _ _ e
end
theorem lt_uniq : ∀ {a b : List Int}, a.Pairwise (· < ·) → b.Pairwise (· < ·) → (∀ x, x ∈ a ↔ x ∈ b) → a = b
  | [], [], _, _, _ => rfl
  | [], y :: b, _, _, h => absurd ((h y).mpr List.mem_cons_self) (by simp)
  | x :: a, [], _, _, h => absurd ((h x).mp List.mem_cons_self) (by simp)
  | x :: a, y :: b, ha, hb, h => by
    obtain ⟨a1, a2⟩ := List.pairwise_cons.mp ha
    obtain ⟨b1, b2⟩ := List.pairwise_cons.mp hb
    have e : x = y := by
      rcases List.mem_cons.mp ((h x).mp List.mem_cons_self) with e | e
      · exact e
      · rcases List.mem_cons.mp ((h y).mpr List.mem_cons_self) with e' | e'
        · exact e'.symm
        · have := b1 _ e; have := a1 _ e'; omega
    subst e
    rw [lt_uniq a2 b2 fun z => ⟨fun hz => by
      rcases List.mem_cons.mp ((h z).mp (List.mem_cons_of_mem _ hz)) with e | e
      · have := a1 _ hz; omega
      · exact e, fun hz => by
      rcases List.mem_cons.mp ((h z).mpr (List.mem_cons_of_mem _ hz)) with e | e
      · have := b1 _ hz; omega
      · exact e⟩]
end G

/-! ### sorted(set(xs)), xs a list of ints -/
namespace GSL
open PySem PySem.Spec PyProof.Rows L2
section
variable {P : Program} {w : World} {A : Around} {E : Value → Shared → Prop} {s : Shared}
end
end GSL
namespace G
open PySem PySem.Spec PyProof.Rows L2
end G

/-! ### {k: v} of two ints -/
namespace G
open PySem L2
end G

/-! ### a list of anything held against [] -/
namespace G
open PySem PySem.Spec PyProof.Rows L2
def rEqNil (K : PySem.W.Frag) : R2 := fun x y H Q => ∃ (l m : Addr) (xs : List V), x = .ref l ∧ y = .ref m ∧ SqL K H l xs ∧ SqL K H m [] ∧ Q (.bl xs.isEmpty) H
theorem op_eqNil {X : Cx} (hu : X.A.units + 64 < cLine) : OpR X (compareOp .Eq) (rEqNil X.K) := by
  intro pins s σ H x y v u Q I rx ry h
  obtain ⟨l, m, xs, rfl, rfl, h1, h2, q⟩ := h
  cases rx
  cases ry
  obtain ⟨its, rv, pl, hz⟩ := I.list h1
  obtain ⟨its2, rv2, pl2, hz2⟩ := I.list h2
  have hun : X.A.units < cLine := by omega
  cases rv2
  cases xs with
  | nil =>
    cases rv
    exact SeqAt.RcAt.lists (A := X.A) (s := s) (e := fun _ => true) pl.isList pl2.isList rfl hun (fun j j1 _ => absurd j1 (Nat.not_lt_zero _)) X.prog X.w _ _ ⟨.bl _, H, I, rfl, q⟩
  | cons a b =>
    cases rv
    exact SeqAt.RcAt.lists_lengths (A := X.A) (s := s) pl.isList pl2.isList (by simp) hun X.prog X.w _ _ ⟨.bl _, H, I, rfl, q⟩
theorem we_eqNilV {K : PySem.W.Frag} {Γ : Ga} {k : Gp → Ga → Prop} {ta : TE} (h : WQ ta Γ fun q Γ1 => ∃ ds, q = dP (.list ds) ∧ k (dat (.bool ds.isEmpty)) Γ1) : WE (tOp (rEqNil K) ta (tLst tNil)) Γ k := by
  refine we_opK (h.imp fun q Γ1 ⟨ds, e, hk⟩ => ⟨_, e, wq_of (we_lst (wa_nil ⟨[], argD0, (by decide), _, frz_own, _, rfl, fun ω σ H v w S a b Q f => ?_⟩))⟩)
  obtain ⟨l, xs, rfl, ha, hd⟩ := DR.lst_inv a
  obtain ⟨m, ys, rfl, hb, he⟩ := DR.lst_inv b
  have : ys = [] := by cases ys with | nil => rfl | cons y ys => exact nomatch he
  subst this
  refine ⟨l, m, xs, rfl, rfl, SqL.of (vw_H ha), SqL.of (vw_H hb), f _ (dat (.bool ds.isEmpty)) _ ω H hk S ?_ Fr.refl⟩
  have e : xs.isEmpty = ds.isEmpty := by
    have := hd.length
    cases xs <;> cases ds <;> first | rfl | (simp at this)
  rw [e]
  exact DR.bl _
end G

/-! ### {e for a in as for b in bs}, of ints -/
namespace GS2
open PySem PySem.Spec PyProof.Rows L2
abbrev two (el ta ia tb ib : Expr) (sc : Scope) (ps : Pos) : Expr := .SetComp el [⟨ta, ia, [], 0⟩, ⟨tb, ib, [], 0⟩] sc ps
section
variable {prog : Program} {w : World} {A : Around} {R : Result → Shared → Prop} {s : Shared} {el ta ia tb ib : Expr} {sc : Scope} {ps : Pos} {it acc : Value} {env : Env}
end
section
variable {X : Cx}
end
end GS2

/-! ### sorted({h for l in ls for h in l}) of lists of ints -/
namespace GS2
open PySem PySem.Spec PyProof.Rows L2
end GS2
namespace G
open PySem PySem.Spec PyProof.Rows L2 GS2
end G

/-! ### sorted of a list of lists of ints -/
namespace GSM
open PySem PySem.Spec PyProof.Rows L2
end GSM
namespace G
open PySem PySem.Spec PyProof.Rows L2 GSM
def keyN (H : Hp) : V → List Int
  | .ref a => match H a with | some (.lst vs) => vs.map (fun v => match v with | .int i => i | _ => 0) | _ => []
  | _ => []
end G

namespace G
open GSM
/-! ### places numbered anew -/
structure Ord (n : Nat) (os : List Int) (π σ : Int → Int) : Prop where
  len : os.length = n
  at_ : ∀ x : Int, 0 ≤ x → x < n → os[x.toNat]? = some (π x)
  rng : ∀ x : Int, 0 ≤ x → x < n → 0 ≤ π x ∧ π x < n
  back : ∀ x : Int, 0 ≤ x → x < n → 0 ≤ σ x ∧ σ x < n
  sp : ∀ x : Int, 0 ≤ x → x < n → σ (π x) = x
  ps : ∀ x : Int, 0 ≤ x → x < n → π (σ x) = x
theorem Ord.turn {n : Nat} {os : List Int} {π σ : Int → Int} (O : Ord n os π σ) (bs : List Int) (hb : bs = (List.range n).map fun i : Nat => σ (i : Int)) : Ord n bs σ π := by
  subst hb
  refine ⟨by rw [List.length_map, List.length_range], fun x x0 x1 => ?_, O.back, O.rng, O.ps, O.sp⟩
  rw [List.getElem?_map, List.getElem?_range (by omega)]
  simp [Int.toNat_of_nonneg x0]
def mvT (π : Int → Int) (t : Int × Int) : Int × Int := (if π t.2 < π t.1 then π t.2 else π t.1, if π t.2 > π t.1 then π t.2 else π t.1)
section
variable {n : Nat} {os : List Int} {π σ : Int → Int} {ts ms : List (Int × Int)}
theorem Ord.inj (O : Ord n os π σ) {x y : Int} (x0 : 0 ≤ x) (x1 : x < n) (y0 : 0 ≤ y) (y1 : y < n) (e : π x = π y) : x = y := by
  rw [← O.sp x x0 x1, ← O.sp y y0 y1, e]
theorem Ord.ok (O : Ord n os π σ) {t : Int × Int} (h : 0 ≤ t.1 ∧ t.1 < t.2 ∧ t.2 < n) : 0 ≤ (mvT π t).1 ∧ (mvT π t).1 < (mvT π t).2 ∧ (mvT π t).2 < n := by
  have h1 := O.rng t.1 (by omega) (by omega)
  have h2 := O.rng t.2 (by omega) (by omega)
  have h3 : π t.1 ≠ π t.2 := fun e => by have := O.inj (by omega) (by omega) (by omega) (by omega) e; omega
  unfold mvT
  dsimp only
  split <;> split <;> omega
theorem Ord.cases (O : Ord n os π σ) {t : Int × Int} (h : 0 ≤ t.1 ∧ t.1 < t.2 ∧ t.2 < n) : mvT π t = (π t.1, π t.2) ∨ mvT π t = (π t.2, π t.1) := by
  have h3 : π t.1 ≠ π t.2 := fun e => by have := O.inj (by omega) (by omega) (by omega) (by omega) e; omega
  unfold mvT
  by_cases c : π t.2 < π t.1
  · rw [if_pos c, if_neg (by omega)]; exact .inr rfl
  · rw [if_neg c, if_pos (by omega)]; exact .inl rfl
theorem Ord.mv_mv (O : Ord n os π σ) {t : Int × Int} (h : 0 ≤ t.1 ∧ t.1 < t.2 ∧ t.2 < n) : mvT σ (mvT π t) = t := by
  have h1 := O.sp t.1 (by omega) (by omega)
  have h2 := O.sp t.2 (by omega) (by omega)
  have e : t = (t.1, t.2) := rfl
  rcases O.cases h with c | c <;> rw [c] <;> unfold mvT <;> dsimp only <;> rw [h1, h2]
  · rw [if_neg (by omega), if_pos (by omega)]
  · rw [if_pos (by omega), if_neg (by omega)]
theorem Ord.nd (O : Ord n os π σ) (hv : Valid n ts) (hnd : ts.Nodup) (hp : ms.Perm (ts.map (mvT π))) : ms.Nodup := by
  refine hp.nodup_iff.mpr ?_
  rw [List.Nodup, List.pairwise_map]
  refine hnd.imp_of_mem fun {a b} ha hb hne e => hne ?_
  rw [← O.mv_mv (hv a ha), ← O.mv_mv (hv b hb), e]
/-- sorted(..) of the images -/
theorem Ord.sorted (O : Ord n os π σ) {l l' zs : List Int} (hl : ∀ x ∈ l, 0 ≤ x ∧ x < n) (nd : l.Nodup) (hp : zs.Perm (l.map π)) (hs : zs.Pairwise (· ≤ ·)) (ha : l'.Pairwise (· < ·)) (hm : ∀ y, y ∈ l' ↔ ∃ x ∈ l, π x = y) : zs = l' := by
  have n2 : zs.Nodup := by
    refine hp.nodup_iff.mpr ?_
    rw [List.Nodup, List.pairwise_map]
    refine nd.imp_of_mem fun {a b} ha hb hne e => hne (O.inj (hl a ha).1 (hl a ha).2 (hl b hb).1 (hl b hb).2 e)
  refine lt_uniq ((hs.and n2).imp fun {a b} ⟨h1, h2⟩ => by omega) ha fun y => ?_
  rw [hp.mem_iff, List.mem_map, hm]
end
/-! ### and what hangs together -/
section
variable {n : Nat} {E E' : Int → Int → Prop} {os : List Int} {π σ : Int → Int}
end
end G

namespace G
open PySem L2
local macro_rules | `(tactic| walk_at "g1") => `(tactic| first
  | (with_reducible show WE _ _ _; with_reducible first | refine we_var (by with_unfolding_all exact rfl) ?_ | (show WE (tOp _ _ _) _ _; first | refine we_ixS (by with_unfolding_all exact rfl) ?_ | refine we_ixScr (by with_unfolding_all exact rfl) ?_ | refine we_inS (by with_unfolding_all exact rfl) ?_ | refine we_notInS (by with_unfolding_all exact rfl) ?_ | refine we_eqS (by with_unfolding_all exact rfl) ?_ | refine we_neS (by with_unfolding_all exact rfl) ?_ | refine we_opK ?_) | (show WE (tCB _ _) _ _; first | refine we_lenS' (by with_unfolding_all exact rfl) ?_ | refine we_lenScr (by with_unfolding_all exact rfl) ?_ | refine we_cbK ?_) | refine we_int ?_ | refine we_bl ?_ | refine we_non ?_ | refine we_str ?_ | refine we_neg ?_ | refine we_not ?_ | refine we_and ?_ | refine we_or ?_ | refine we_if ?_ | refine we_tup ?_ | refine we_lst ?_ | refine we_call ?_ | refine we_mt (by with_unfolding_all exact rfl) ?_)
  | (with_reducible show WS _ _ _ _; with_reducible first | refine ws_seqA ?_ | refine ws_seqD ?_ | refine ws_asg (by with_unfolding_all exact rfl) ?_ | refine ws_asgG ?_ | refine ws_if ?_ | refine ws_ret ?_ | refine ws_drop ?_ | refine ws_next ?_ | refine ws_retN ?_)
  | (with_reducible show WT _ _ _; with_reducible first | refine wt_test ?_ | refine wt_B ?_ | refine wt_not ?_ | refine wt_and ?_ | refine wt_or ?_ | refine wt_yes ?_)
  | (with_reducible show WA _ _ _; with_reducible first | refine wa_nil ?_ | refine wa_cons (wq_of (we_var (by with_unfolding_all exact rfl) ?_)) | refine wa_slotU (by with_unfolding_all exact rfl) ?_ | refine wa_cons ?_)
  | (with_reducible show OpK _ _ _ _ _; with_reducible first | refine ok_plusI ?_ | refine ok_sub ?_ | refine ok_lt ?_ | refine ok_le ?_ | refine ok_gt ?_ | refine ok_ge ?_ | refine ok_eqI ?_ | refine ok_neI ?_ | refine ok_mod (by first | assumption | decide | omega) ?_ | refine ok_ixL (by with_unfolding_all exact rfl) ?_)
  | (with_reducible show CbK _ _ _ _; with_reducible first | refine ck_lenL ?_ | refine ck_lenT ?_ | refine ck_int ?_ | refine ck_intB ?_ | refine ck_max ?_ | refine ck_min ?_ | refine ck_list ?_)
  | with_reducible refine wq_of ?_
  | (with_reducible show WG _ _ _ _ _; with_reducible first | refine wg_name (by with_unfolding_all exact rfl) ?_ | refine wg_tup (by with_unfolding_all exact rfl) ?_ | refine wg_set (by with_unfolding_all exact rfl) ?_)
  | (with_reducible show WGs _ _ _ _ _; with_reducible first | refine wgs_cons ?_ | refine wgs_nil ?_)
  | with_reducible refine iteT ?_
  | with_reducible refine iteF ?_
  | with_reducible refine ⟨_, frz_per, ?_⟩
  | with_reducible refine ⟨_, frz_own, ?_⟩
  | refine ⟨_, rfl, ?_⟩
  | refine ⟨_, argD1, ?_⟩
  | refine ⟨_, argD2, ?_⟩
  | refine ⟨_, argD0, ?_⟩
  | refine ⟨_, argD3, ?_⟩
  | refine ⟨_, argD4, ?_⟩
  | refine ⟨_, _, rfl, rfl, rfl, ?_⟩
  | refine ⟨_, _, _, rfl, rfl, rfl, ?_⟩
  | refine ⟨(by simp only [List.length_cons, List.length_nil]; decide), ?_⟩
  | refine ⟨rfl, nd1, ?_⟩
  | refine ⟨rfl, nd0, ?_⟩)
local macro_rules | `(tactic| walk_at "go") => `(tactic| repeat walk_at "g1")
local macro_rules | `(tactic| walk_at "g2") => `(tactic| first
  | (with_reducible show WE _ _ _; with_reducible first | refine we_var (by with_unfolding_all exact rfl) ?_ | (show WE (tOp _ _ _) _ _; first | refine we_notN ?_ | refine we_ixS (by with_unfolding_all exact rfl) ?_ | refine we_ixScr (by with_unfolding_all exact rfl) ?_ | refine we_inS (by with_unfolding_all exact rfl) ?_ | refine we_notInS (by with_unfolding_all exact rfl) ?_ | refine we_eqS (by with_unfolding_all exact rfl) ?_ | refine we_neS (by with_unfolding_all exact rfl) ?_ | refine we_opK ?_) | (show WE (tCB _ _) _ _; first | refine we_isInt ?_ | refine we_isBl ?_ | refine we_isLst ?_ | refine we_isTup ?_ | refine we_lenO (by with_unfolding_all exact rfl) ?_ | refine we_lenS' (by with_unfolding_all exact rfl) ?_ | refine we_lenScr (by with_unfolding_all exact rfl) ?_ | refine we_cbK ?_) | refine we_chain ?_ | refine we_slice ?_ | refine we_int ?_ | refine we_bl ?_ | refine we_non ?_ | refine we_str ?_ | refine we_neg ?_ | refine we_not ?_ | refine we_and ?_ | refine we_or ?_ | refine we_if ?_ | refine we_tup ?_ | refine we_lst ?_ | refine we_call ?_ | refine we_mt (by with_unfolding_all exact rfl) ?_)
  | (with_reducible show WS _ _ _ _; with_reducible first | refine ws_seqA ?_ | refine ws_seqD ?_ | refine ws_asg (by with_unfolding_all exact rfl) ?_ | refine ws_asgG ?_ | refine ws_if ?_ | refine ws_ret ?_ | refine ws_drop ?_ | refine ws_next ?_ | refine ws_retN ?_)
  | (with_reducible show WT _ _ _; with_reducible first | refine wt_test ?_ | refine wt_B ?_ | refine wt_not ?_ | refine wt_and ?_ | refine wt_or ?_ | refine wt_yes ?_)
  | (with_reducible show WA _ _ _; with_reducible first | refine wa_nil ?_ | refine wa_cons (wq_of (we_var (by with_unfolding_all exact rfl) ?_)) | refine wa_slotU (by with_unfolding_all exact rfl) ?_ | refine wa_cons ?_)
  | (with_reducible show OpK _ _ _ _ _; with_reducible first | refine ok_isB ?_ | refine ok_notB ?_ | refine ok_plusI ?_ | refine ok_sub ?_ | refine ok_lt ?_ | refine ok_le ?_ | refine ok_gt ?_ | refine ok_ge ?_ | refine ok_eqI ?_ | refine ok_neI ?_ | refine ok_mod (by first | assumption | decide | omega) ?_ | refine ok_ixL (by with_unfolding_all exact rfl) ?_)
  | (with_reducible show CbK _ _ _ _; with_reducible first | refine ck_lenL ?_ | refine ck_lenT ?_ | refine ck_int ?_ | refine ck_intB ?_ | refine ck_max ?_ | refine ck_min ?_ | refine ck_list ?_)
  | with_reducible refine wq_of ?_
  | (with_reducible show WG _ _ _ _ _; with_reducible first | refine wg_name (by with_unfolding_all exact rfl) ?_ | refine wg_tup (by with_unfolding_all exact rfl) ?_ | refine wg_set (by with_unfolding_all exact rfl) ?_)
  | (with_reducible show WGs _ _ _ _ _; with_reducible first | refine wgs_cons ?_ | refine wgs_nil ?_)
  | (with_reducible show WO _ _ _; with_reducible first | refine wo_some ?_ | refine wo_none ?_)
  | refine ⟨_, argD5, ?_⟩
  | refine ⟨_, argD6, ?_⟩
  | refine ⟨_, argD7, ?_⟩
  | refine ⟨_, argD9, ?_⟩
  | with_reducible refine iteT ?_
  | with_reducible refine iteF ?_
  | with_reducible refine ⟨_, frz_per, ?_⟩
  | with_reducible refine ⟨_, frz_own, ?_⟩
  | refine ⟨_, rfl, ?_⟩
  | refine ⟨_, argD1, ?_⟩
  | refine ⟨_, argD2, ?_⟩
  | refine ⟨_, argD0, ?_⟩
  | refine ⟨_, argD3, ?_⟩
  | refine ⟨_, argD4, ?_⟩
  | refine ⟨_, _, rfl, rfl, rfl, ?_⟩
  | refine ⟨_, _, _, rfl, rfl, rfl, ?_⟩
  | refine ⟨(by simp only [List.length_cons, List.length_nil]; decide), ?_⟩
  | refine ⟨rfl, nd1, ?_⟩
  | refine ⟨rfl, nd0, ?_⟩)
local macro_rules | `(tactic| walk_at "g2") => `(tactic| first | with_reducible refine we_isInt ?_ | with_reducible refine we_isBl ?_ | with_reducible refine we_isLst ?_ | with_reducible refine we_isTup ?_ | with_reducible refine we_chain ?_ | with_reducible refine we_lenO (by with_unfolding_all exact rfl) ?_ | with_reducible refine we_lenSetW ?_ | with_reducible refine we_slice ?_ | with_reducible refine wo_some ?_ | with_reducible refine wo_none ?_ | walk_at "g1")
end G

namespace G
open PySem L2
local macro_rules | `(tactic| walk_at "g1") => `(tactic| first
  | (with_reducible show WE _ _ _; with_reducible first | refine we_var (by with_unfolding_all exact rfl) ?_ | (show WE (tOp _ _ _) _ _; first | refine we_ixS (by with_unfolding_all exact rfl) ?_ | refine we_ixScr (by with_unfolding_all exact rfl) ?_ | refine we_inS (by with_unfolding_all exact rfl) ?_ | refine we_notInS (by with_unfolding_all exact rfl) ?_ | refine we_eqS (by with_unfolding_all exact rfl) ?_ | refine we_neS (by with_unfolding_all exact rfl) ?_ | refine we_opK ?_) | (show WE (tCB _ _) _ _; first | refine we_lenS' (by with_unfolding_all exact rfl) ?_ | refine we_lenScr (by with_unfolding_all exact rfl) ?_ | refine we_cbK ?_) | refine we_int ?_ | refine we_bl ?_ | refine we_non ?_ | refine we_str ?_ | refine we_neg ?_ | refine we_not ?_ | refine we_and ?_ | refine we_or ?_ | refine we_if ?_ | refine we_tup ?_ | refine we_lst ?_ | refine we_call ?_ | refine we_mt (by with_unfolding_all exact rfl) ?_)
  | (with_reducible show WS _ _ _ _; with_reducible first | refine ws_seqA ?_ | refine ws_seqD ?_ | refine ws_asg (by with_unfolding_all exact rfl) ?_ | refine ws_asgG ?_ | refine ws_if ?_ | refine ws_ret ?_ | refine ws_drop ?_ | refine ws_next ?_ | refine ws_retN ?_)
  | (with_reducible show WT _ _ _; with_reducible first | refine wt_test ?_ | refine wt_B ?_ | refine wt_not ?_ | refine wt_and ?_ | refine wt_or ?_ | refine wt_yes ?_)
  | (with_reducible show WA _ _ _; with_reducible first | refine wa_nil ?_ | refine wa_cons (wq_of (we_var (by with_unfolding_all exact rfl) ?_)) | refine wa_slotU (by with_unfolding_all exact rfl) ?_ | refine wa_cons ?_)
  | (with_reducible show OpK _ _ _ _ _; with_reducible first | refine ok_plusI ?_ | refine ok_sub ?_ | refine ok_lt ?_ | refine ok_le ?_ | refine ok_gt ?_ | refine ok_ge ?_ | refine ok_eqI ?_ | refine ok_neI ?_ | refine ok_mod (by first | assumption | decide | omega) ?_ | refine ok_ixL (by with_unfolding_all exact rfl) ?_)
  | (with_reducible show CbK _ _ _ _; with_reducible first | refine ck_lenL ?_ | refine ck_lenT ?_ | refine ck_int ?_ | refine ck_intB ?_ | refine ck_max ?_ | refine ck_min ?_ | refine ck_list ?_)
  | with_reducible refine wq_of ?_
  | (with_reducible show WG _ _ _ _ _; with_reducible first | refine wg_name (by with_unfolding_all exact rfl) ?_ | refine wg_tup (by with_unfolding_all exact rfl) ?_ | refine wg_set (by with_unfolding_all exact rfl) ?_)
  | (with_reducible show WGs _ _ _ _ _; with_reducible first | refine wgs_cons ?_ | refine wgs_nil ?_)
  | with_reducible refine iteT ?_
  | with_reducible refine iteF ?_
  | with_reducible refine ⟨_, frz_per, ?_⟩
  | with_reducible refine ⟨_, frz_own, ?_⟩
  | refine ⟨_, rfl, ?_⟩
  | refine ⟨_, argD1, ?_⟩
  | refine ⟨_, argD2, ?_⟩
  | refine ⟨_, argD0, ?_⟩
  | refine ⟨_, argD3, ?_⟩
  | refine ⟨_, argD4, ?_⟩
  | refine ⟨_, _, rfl, rfl, rfl, ?_⟩
  | refine ⟨_, _, _, rfl, rfl, rfl, ?_⟩
  | refine ⟨(by simp only [List.length_cons, List.length_nil]; decide), ?_⟩
  | refine ⟨rfl, nd1, ?_⟩
  | refine ⟨rfl, nd0, ?_⟩)
local macro_rules | `(tactic| walk_at "go") => `(tactic| repeat walk_at "g1")
local macro_rules | `(tactic| walk_at "g2") => `(tactic| first
  | (with_reducible show WE _ _ _; with_reducible first | refine we_var (by with_unfolding_all exact rfl) ?_ | (show WE (tOp _ _ _) _ _; first | refine we_notN ?_ | refine we_ixS (by with_unfolding_all exact rfl) ?_ | refine we_ixScr (by with_unfolding_all exact rfl) ?_ | refine we_inS (by with_unfolding_all exact rfl) ?_ | refine we_notInS (by with_unfolding_all exact rfl) ?_ | refine we_eqS (by with_unfolding_all exact rfl) ?_ | refine we_neS (by with_unfolding_all exact rfl) ?_ | refine we_opK ?_) | (show WE (tCB _ _) _ _; first | refine we_isInt ?_ | refine we_isBl ?_ | refine we_isLst ?_ | refine we_isTup ?_ | refine we_lenO (by with_unfolding_all exact rfl) ?_ | refine we_lenS' (by with_unfolding_all exact rfl) ?_ | refine we_lenScr (by with_unfolding_all exact rfl) ?_ | refine we_cbK ?_) | refine we_chain ?_ | refine we_slice ?_ | refine we_int ?_ | refine we_bl ?_ | refine we_non ?_ | refine we_str ?_ | refine we_neg ?_ | refine we_not ?_ | refine we_and ?_ | refine we_or ?_ | refine we_if ?_ | refine we_tup ?_ | refine we_lst ?_ | refine we_call ?_ | refine we_mt (by with_unfolding_all exact rfl) ?_)
  | (with_reducible show WS _ _ _ _; with_reducible first | refine ws_seqA ?_ | refine ws_seqD ?_ | refine ws_asg (by with_unfolding_all exact rfl) ?_ | refine ws_asgG ?_ | refine ws_if ?_ | refine ws_ret ?_ | refine ws_drop ?_ | refine ws_next ?_ | refine ws_retN ?_)
  | (with_reducible show WT _ _ _; with_reducible first | refine wt_test ?_ | refine wt_B ?_ | refine wt_not ?_ | refine wt_and ?_ | refine wt_or ?_ | refine wt_yes ?_)
  | (with_reducible show WA _ _ _; with_reducible first | refine wa_nil ?_ | refine wa_cons (wq_of (we_var (by with_unfolding_all exact rfl) ?_)) | refine wa_slotU (by with_unfolding_all exact rfl) ?_ | refine wa_cons ?_)
  | (with_reducible show OpK _ _ _ _ _; with_reducible first | refine ok_isB ?_ | refine ok_notB ?_ | refine ok_plusI ?_ | refine ok_sub ?_ | refine ok_lt ?_ | refine ok_le ?_ | refine ok_gt ?_ | refine ok_ge ?_ | refine ok_eqI ?_ | refine ok_neI ?_ | refine ok_mod (by first | assumption | decide | omega) ?_ | refine ok_ixL (by with_unfolding_all exact rfl) ?_)
  | (with_reducible show CbK _ _ _ _; with_reducible first | refine ck_lenL ?_ | refine ck_lenT ?_ | refine ck_int ?_ | refine ck_intB ?_ | refine ck_max ?_ | refine ck_min ?_ | refine ck_list ?_)
  | with_reducible refine wq_of ?_
  | (with_reducible show WG _ _ _ _ _; with_reducible first | refine wg_name (by with_unfolding_all exact rfl) ?_ | refine wg_tup (by with_unfolding_all exact rfl) ?_ | refine wg_set (by with_unfolding_all exact rfl) ?_)
  | (with_reducible show WGs _ _ _ _ _; with_reducible first | refine wgs_cons ?_ | refine wgs_nil ?_)
  | (with_reducible show WO _ _ _; with_reducible first | refine wo_some ?_ | refine wo_none ?_)
  | refine ⟨_, argD5, ?_⟩
  | refine ⟨_, argD6, ?_⟩
  | refine ⟨_, argD7, ?_⟩
  | refine ⟨_, argD9, ?_⟩
  | with_reducible refine iteT ?_
  | with_reducible refine iteF ?_
  | with_reducible refine ⟨_, frz_per, ?_⟩
  | with_reducible refine ⟨_, frz_own, ?_⟩
  | refine ⟨_, rfl, ?_⟩
  | refine ⟨_, argD1, ?_⟩
  | refine ⟨_, argD2, ?_⟩
  | refine ⟨_, argD0, ?_⟩
  | refine ⟨_, argD3, ?_⟩
  | refine ⟨_, argD4, ?_⟩
  | refine ⟨_, _, rfl, rfl, rfl, ?_⟩
  | refine ⟨_, _, _, rfl, rfl, rfl, ?_⟩
  | refine ⟨(by simp only [List.length_cons, List.length_nil]; decide), ?_⟩
  | refine ⟨rfl, nd1, ?_⟩
  | refine ⟨rfl, nd0, ?_⟩)
local macro_rules | `(tactic| walk_at "g2") => `(tactic| first | with_reducible refine we_isInt ?_ | with_reducible refine we_isLst ?_ | with_reducible refine we_chain ?_ | with_reducible refine we_lenO (by with_unfolding_all exact rfl) ?_ | with_reducible refine we_slice ?_ | with_reducible refine wo_some ?_ | with_reducible refine wo_none ?_ | walk_at "g1")
/-- start, start + step, .. -/
def prog (s t : Int) (i : Nat) : List Int := (List.range i).map fun (k : Nat) => s + (k : Int) * t
abbrev F_law_copies : Fw := fun gs kk xx => ∃ (ls : List (List Int)), gs = [dat (.list (ls.map rowI))] ∧ ls.length < 1000 ∧ kk (own (ls.map rowI)) [none]
end G

namespace G
open PySem L2
local macro_rules | `(tactic| walk_at "g1") => `(tactic| first
  | (with_reducible show WE _ _ _; with_reducible first | refine we_var (by with_unfolding_all exact rfl) ?_ | (show WE (tOp _ _ _) _ _; first | refine we_ixS (by with_unfolding_all exact rfl) ?_ | refine we_ixScr (by with_unfolding_all exact rfl) ?_ | refine we_inS (by with_unfolding_all exact rfl) ?_ | refine we_notInS (by with_unfolding_all exact rfl) ?_ | refine we_eqS (by with_unfolding_all exact rfl) ?_ | refine we_neS (by with_unfolding_all exact rfl) ?_ | refine we_opK ?_) | (show WE (tCB _ _) _ _; first | refine we_lenS' (by with_unfolding_all exact rfl) ?_ | refine we_lenScr (by with_unfolding_all exact rfl) ?_ | refine we_cbK ?_) | refine we_int ?_ | refine we_bl ?_ | refine we_non ?_ | refine we_str ?_ | refine we_neg ?_ | refine we_not ?_ | refine we_and ?_ | refine we_or ?_ | refine we_if ?_ | refine we_tup ?_ | refine we_lst ?_ | refine we_call ?_ | refine we_mt (by with_unfolding_all exact rfl) ?_)
  | (with_reducible show WS _ _ _ _; with_reducible first | refine ws_seqA ?_ | refine ws_seqD ?_ | refine ws_asg (by with_unfolding_all exact rfl) ?_ | refine ws_asgG ?_ | refine ws_if ?_ | refine ws_ret ?_ | refine ws_drop ?_ | refine ws_next ?_ | refine ws_retN ?_)
  | (with_reducible show WT _ _ _; with_reducible first | refine wt_test ?_ | refine wt_B ?_ | refine wt_not ?_ | refine wt_and ?_ | refine wt_or ?_ | refine wt_yes ?_)
  | (with_reducible show WA _ _ _; with_reducible first | refine wa_nil ?_ | refine wa_cons (wq_of (we_var (by with_unfolding_all exact rfl) ?_)) | refine wa_slotU (by with_unfolding_all exact rfl) ?_ | refine wa_cons ?_)
  | (with_reducible show OpK _ _ _ _ _; with_reducible first | refine ok_plusI ?_ | refine ok_sub ?_ | refine ok_lt ?_ | refine ok_le ?_ | refine ok_gt ?_ | refine ok_ge ?_ | refine ok_eqI ?_ | refine ok_neI ?_ | refine ok_mod (by first | assumption | decide | omega) ?_ | refine ok_ixL (by with_unfolding_all exact rfl) ?_)
  | (with_reducible show CbK _ _ _ _; with_reducible first | refine ck_lenL ?_ | refine ck_lenT ?_ | refine ck_int ?_ | refine ck_intB ?_ | refine ck_max ?_ | refine ck_min ?_ | refine ck_list ?_)
  | with_reducible refine wq_of ?_
  | (with_reducible show WG _ _ _ _ _; with_reducible first | refine wg_name (by with_unfolding_all exact rfl) ?_ | refine wg_tup (by with_unfolding_all exact rfl) ?_ | refine wg_set (by with_unfolding_all exact rfl) ?_)
  | (with_reducible show WGs _ _ _ _ _; with_reducible first | refine wgs_cons ?_ | refine wgs_nil ?_)
  | with_reducible refine iteT ?_
  | with_reducible refine iteF ?_
  | with_reducible refine ⟨_, frz_per, ?_⟩
  | with_reducible refine ⟨_, frz_own, ?_⟩
  | refine ⟨_, rfl, ?_⟩
  | refine ⟨_, argD1, ?_⟩
  | refine ⟨_, argD2, ?_⟩
  | refine ⟨_, argD0, ?_⟩
  | refine ⟨_, argD3, ?_⟩
  | refine ⟨_, argD4, ?_⟩
  | refine ⟨_, _, rfl, rfl, rfl, ?_⟩
  | refine ⟨_, _, _, rfl, rfl, rfl, ?_⟩
  | refine ⟨(by simp only [List.length_cons, List.length_nil]; decide), ?_⟩
  | refine ⟨rfl, nd1, ?_⟩
  | refine ⟨rfl, nd0, ?_⟩)
local macro_rules | `(tactic| walk_at "go") => `(tactic| repeat walk_at "g1")
local macro_rules | `(tactic| walk_at "g2") => `(tactic| first
  | (with_reducible show WE _ _ _; with_reducible first | refine we_var (by with_unfolding_all exact rfl) ?_ | (show WE (tOp _ _ _) _ _; first | refine we_notN ?_ | refine we_ixS (by with_unfolding_all exact rfl) ?_ | refine we_ixScr (by with_unfolding_all exact rfl) ?_ | refine we_inS (by with_unfolding_all exact rfl) ?_ | refine we_notInS (by with_unfolding_all exact rfl) ?_ | refine we_eqS (by with_unfolding_all exact rfl) ?_ | refine we_neS (by with_unfolding_all exact rfl) ?_ | refine we_opK ?_) | (show WE (tCB _ _) _ _; first | refine we_isInt ?_ | refine we_isBl ?_ | refine we_isLst ?_ | refine we_isTup ?_ | refine we_lenO (by with_unfolding_all exact rfl) ?_ | refine we_lenS' (by with_unfolding_all exact rfl) ?_ | refine we_lenScr (by with_unfolding_all exact rfl) ?_ | refine we_cbK ?_) | refine we_chain ?_ | refine we_slice ?_ | refine we_int ?_ | refine we_bl ?_ | refine we_non ?_ | refine we_str ?_ | refine we_neg ?_ | refine we_not ?_ | refine we_and ?_ | refine we_or ?_ | refine we_if ?_ | refine we_tup ?_ | refine we_lst ?_ | refine we_call ?_ | refine we_mt (by with_unfolding_all exact rfl) ?_)
  | (with_reducible show WS _ _ _ _; with_reducible first | refine ws_seqA ?_ | refine ws_seqD ?_ | refine ws_asg (by with_unfolding_all exact rfl) ?_ | refine ws_asgG ?_ | refine ws_if ?_ | refine ws_ret ?_ | refine ws_drop ?_ | refine ws_next ?_ | refine ws_retN ?_)
  | (with_reducible show WT _ _ _; with_reducible first | refine wt_test ?_ | refine wt_B ?_ | refine wt_not ?_ | refine wt_and ?_ | refine wt_or ?_ | refine wt_yes ?_)
  | (with_reducible show WA _ _ _; with_reducible first | refine wa_nil ?_ | refine wa_cons (wq_of (we_var (by with_unfolding_all exact rfl) ?_)) | refine wa_slotU (by with_unfolding_all exact rfl) ?_ | refine wa_cons ?_)
  | (with_reducible show OpK _ _ _ _ _; with_reducible first | refine ok_isB ?_ | refine ok_notB ?_ | refine ok_plusI ?_ | refine ok_sub ?_ | refine ok_lt ?_ | refine ok_le ?_ | refine ok_gt ?_ | refine ok_ge ?_ | refine ok_eqI ?_ | refine ok_neI ?_ | refine ok_mod (by first | assumption | decide | omega) ?_ | refine ok_ixL (by with_unfolding_all exact rfl) ?_)
  | (with_reducible show CbK _ _ _ _; with_reducible first | refine ck_lenL ?_ | refine ck_lenT ?_ | refine ck_int ?_ | refine ck_intB ?_ | refine ck_max ?_ | refine ck_min ?_ | refine ck_list ?_)
  | with_reducible refine wq_of ?_
  | (with_reducible show WG _ _ _ _ _; with_reducible first | refine wg_name (by with_unfolding_all exact rfl) ?_ | refine wg_tup (by with_unfolding_all exact rfl) ?_ | refine wg_set (by with_unfolding_all exact rfl) ?_)
  | (with_reducible show WGs _ _ _ _ _; with_reducible first | refine wgs_cons ?_ | refine wgs_nil ?_)
  | (with_reducible show WO _ _ _; with_reducible first | refine wo_some ?_ | refine wo_none ?_)
  | refine ⟨_, argD5, ?_⟩
  | refine ⟨_, argD6, ?_⟩
  | refine ⟨_, argD7, ?_⟩
  | refine ⟨_, argD9, ?_⟩
  | with_reducible refine iteT ?_
  | with_reducible refine iteF ?_
  | with_reducible refine ⟨_, frz_per, ?_⟩
  | with_reducible refine ⟨_, frz_own, ?_⟩
  | refine ⟨_, rfl, ?_⟩
  | refine ⟨_, argD1, ?_⟩
  | refine ⟨_, argD2, ?_⟩
  | refine ⟨_, argD0, ?_⟩
  | refine ⟨_, argD3, ?_⟩
  | refine ⟨_, argD4, ?_⟩
  | refine ⟨_, _, rfl, rfl, rfl, ?_⟩
  | refine ⟨_, _, _, rfl, rfl, rfl, ?_⟩
  | refine ⟨(by simp only [List.length_cons, List.length_nil]; decide), ?_⟩
  | refine ⟨rfl, nd1, ?_⟩
  | refine ⟨rfl, nd0, ?_⟩)
local macro_rules | `(tactic| walk_at "g2") => `(tactic| first | with_reducible refine we_notN ?_ | with_reducible refine we_isInt ?_ | with_reducible refine we_isLst ?_ | with_reducible refine we_chain ?_ | with_reducible refine we_lenO (by with_unfolding_all exact rfl) ?_ | with_reducible refine we_slice ?_ | with_reducible refine wo_some ?_ | with_reducible refine wo_none ?_ | walk_at "g1")
end G

namespace G
open PySem L2
local macro_rules | `(tactic| walk_at "g1") => `(tactic| first
  | (with_reducible show WE _ _ _; with_reducible first | refine we_var (by with_unfolding_all exact rfl) ?_ | (show WE (tOp _ _ _) _ _; first | refine we_ixS (by with_unfolding_all exact rfl) ?_ | refine we_ixScr (by with_unfolding_all exact rfl) ?_ | refine we_inS (by with_unfolding_all exact rfl) ?_ | refine we_notInS (by with_unfolding_all exact rfl) ?_ | refine we_eqS (by with_unfolding_all exact rfl) ?_ | refine we_neS (by with_unfolding_all exact rfl) ?_ | refine we_opK ?_) | (show WE (tCB _ _) _ _; first | refine we_lenS' (by with_unfolding_all exact rfl) ?_ | refine we_lenScr (by with_unfolding_all exact rfl) ?_ | refine we_cbK ?_) | refine we_int ?_ | refine we_bl ?_ | refine we_non ?_ | refine we_str ?_ | refine we_neg ?_ | refine we_not ?_ | refine we_and ?_ | refine we_or ?_ | refine we_if ?_ | refine we_tup ?_ | refine we_lst ?_ | refine we_call ?_ | refine we_mt (by with_unfolding_all exact rfl) ?_)
  | (with_reducible show WS _ _ _ _; with_reducible first | refine ws_seqA ?_ | refine ws_seqD ?_ | refine ws_asg (by with_unfolding_all exact rfl) ?_ | refine ws_asgG ?_ | refine ws_if ?_ | refine ws_ret ?_ | refine ws_drop ?_ | refine ws_next ?_ | refine ws_retN ?_)
  | (with_reducible show WT _ _ _; with_reducible first | refine wt_test ?_ | refine wt_B ?_ | refine wt_not ?_ | refine wt_and ?_ | refine wt_or ?_ | refine wt_yes ?_)
  | (with_reducible show WA _ _ _; with_reducible first | refine wa_nil ?_ | refine wa_cons (wq_of (we_var (by with_unfolding_all exact rfl) ?_)) | refine wa_slotU (by with_unfolding_all exact rfl) ?_ | refine wa_cons ?_)
  | (with_reducible show OpK _ _ _ _ _; with_reducible first | refine ok_plusI ?_ | refine ok_sub ?_ | refine ok_lt ?_ | refine ok_le ?_ | refine ok_gt ?_ | refine ok_ge ?_ | refine ok_eqI ?_ | refine ok_neI ?_ | refine ok_mod (by first | assumption | decide | omega) ?_ | refine ok_ixL (by with_unfolding_all exact rfl) ?_)
  | (with_reducible show CbK _ _ _ _; with_reducible first | refine ck_lenL ?_ | refine ck_lenT ?_ | refine ck_int ?_ | refine ck_intB ?_ | refine ck_max ?_ | refine ck_min ?_ | refine ck_list ?_)
  | with_reducible refine wq_of ?_
  | (with_reducible show WG _ _ _ _ _; with_reducible first | refine wg_name (by with_unfolding_all exact rfl) ?_ | refine wg_tup (by with_unfolding_all exact rfl) ?_ | refine wg_set (by with_unfolding_all exact rfl) ?_)
  | (with_reducible show WGs _ _ _ _ _; with_reducible first | refine wgs_cons ?_ | refine wgs_nil ?_)
  | with_reducible refine iteT ?_
  | with_reducible refine iteF ?_
  | with_reducible refine ⟨_, frz_per, ?_⟩
  | with_reducible refine ⟨_, frz_own, ?_⟩
  | refine ⟨_, rfl, ?_⟩
  | refine ⟨_, argD1, ?_⟩
  | refine ⟨_, argD2, ?_⟩
  | refine ⟨_, argD0, ?_⟩
  | refine ⟨_, argD3, ?_⟩
  | refine ⟨_, argD4, ?_⟩
  | refine ⟨_, _, rfl, rfl, rfl, ?_⟩
  | refine ⟨_, _, _, rfl, rfl, rfl, ?_⟩
  | refine ⟨(by simp only [List.length_cons, List.length_nil]; decide), ?_⟩
  | refine ⟨rfl, nd1, ?_⟩
  | refine ⟨rfl, nd0, ?_⟩)
local macro_rules | `(tactic| walk_at "go") => `(tactic| repeat walk_at "g1")
local macro_rules | `(tactic| walk_at "g2") => `(tactic| first
  | (with_reducible show WE _ _ _; with_reducible first | refine we_var (by with_unfolding_all exact rfl) ?_ | (show WE (tOp _ _ _) _ _; first | refine we_notN ?_ | refine we_ixS (by with_unfolding_all exact rfl) ?_ | refine we_ixScr (by with_unfolding_all exact rfl) ?_ | refine we_inS (by with_unfolding_all exact rfl) ?_ | refine we_notInS (by with_unfolding_all exact rfl) ?_ | refine we_eqS (by with_unfolding_all exact rfl) ?_ | refine we_neS (by with_unfolding_all exact rfl) ?_ | refine we_opK ?_) | (show WE (tCB _ _) _ _; first | refine we_isInt ?_ | refine we_isBl ?_ | refine we_isLst ?_ | refine we_isTup ?_ | refine we_lenO (by with_unfolding_all exact rfl) ?_ | refine we_lenS' (by with_unfolding_all exact rfl) ?_ | refine we_lenScr (by with_unfolding_all exact rfl) ?_ | refine we_cbK ?_) | refine we_chain ?_ | refine we_slice ?_ | refine we_int ?_ | refine we_bl ?_ | refine we_non ?_ | refine we_str ?_ | refine we_neg ?_ | refine we_not ?_ | refine we_and ?_ | refine we_or ?_ | refine we_if ?_ | refine we_tup ?_ | refine we_lst ?_ | refine we_call ?_ | refine we_mt (by with_unfolding_all exact rfl) ?_)
  | (with_reducible show WS _ _ _ _; with_reducible first | refine ws_seqA ?_ | refine ws_seqD ?_ | refine ws_asg (by with_unfolding_all exact rfl) ?_ | refine ws_asgG ?_ | refine ws_if ?_ | refine ws_ret ?_ | refine ws_drop ?_ | refine ws_next ?_ | refine ws_retN ?_)
  | (with_reducible show WT _ _ _; with_reducible first | refine wt_test ?_ | refine wt_B ?_ | refine wt_not ?_ | refine wt_and ?_ | refine wt_or ?_ | refine wt_yes ?_)
  | (with_reducible show WA _ _ _; with_reducible first | refine wa_nil ?_ | refine wa_cons (wq_of (we_var (by with_unfolding_all exact rfl) ?_)) | refine wa_slotU (by with_unfolding_all exact rfl) ?_ | refine wa_cons ?_)
  | (with_reducible show OpK _ _ _ _ _; with_reducible first | refine ok_isB ?_ | refine ok_notB ?_ | refine ok_plusI ?_ | refine ok_sub ?_ | refine ok_lt ?_ | refine ok_le ?_ | refine ok_gt ?_ | refine ok_ge ?_ | refine ok_eqI ?_ | refine ok_neI ?_ | refine ok_mod (by first | assumption | decide | omega) ?_ | refine ok_ixL (by with_unfolding_all exact rfl) ?_)
  | (with_reducible show CbK _ _ _ _; with_reducible first | refine ck_lenL ?_ | refine ck_lenT ?_ | refine ck_int ?_ | refine ck_intB ?_ | refine ck_max ?_ | refine ck_min ?_ | refine ck_list ?_)
  | with_reducible refine wq_of ?_
  | (with_reducible show WG _ _ _ _ _; with_reducible first | refine wg_name (by with_unfolding_all exact rfl) ?_ | refine wg_tup (by with_unfolding_all exact rfl) ?_ | refine wg_set (by with_unfolding_all exact rfl) ?_)
  | (with_reducible show WGs _ _ _ _ _; with_reducible first | refine wgs_cons ?_ | refine wgs_nil ?_)
  | (with_reducible show WO _ _ _; with_reducible first | refine wo_some ?_ | refine wo_none ?_)
  | refine ⟨_, argD5, ?_⟩
  | refine ⟨_, argD6, ?_⟩
  | refine ⟨_, argD7, ?_⟩
  | refine ⟨_, argD9, ?_⟩
  | with_reducible refine iteT ?_
  | with_reducible refine iteF ?_
  | with_reducible refine ⟨_, frz_per, ?_⟩
  | with_reducible refine ⟨_, frz_own, ?_⟩
  | refine ⟨_, rfl, ?_⟩
  | refine ⟨_, argD1, ?_⟩
  | refine ⟨_, argD2, ?_⟩
  | refine ⟨_, argD0, ?_⟩
  | refine ⟨_, argD3, ?_⟩
  | refine ⟨_, argD4, ?_⟩
  | refine ⟨_, _, rfl, rfl, rfl, ?_⟩
  | refine ⟨_, _, _, rfl, rfl, rfl, ?_⟩
  | refine ⟨(by simp only [List.length_cons, List.length_nil]; decide), ?_⟩
  | refine ⟨rfl, nd1, ?_⟩
  | refine ⟨rfl, nd0, ?_⟩)
end G

namespace G
open PySem L2
local macro_rules | `(tactic| walk_at "g1") => `(tactic| first
  | (with_reducible show WE _ _ _; with_reducible first | refine we_var (by with_unfolding_all exact rfl) ?_ | (show WE (tOp _ _ _) _ _; first | refine we_ixS (by with_unfolding_all exact rfl) ?_ | refine we_ixScr (by with_unfolding_all exact rfl) ?_ | refine we_inS (by with_unfolding_all exact rfl) ?_ | refine we_notInS (by with_unfolding_all exact rfl) ?_ | refine we_eqS (by with_unfolding_all exact rfl) ?_ | refine we_neS (by with_unfolding_all exact rfl) ?_ | refine we_opK ?_) | (show WE (tCB _ _) _ _; first | refine we_lenS' (by with_unfolding_all exact rfl) ?_ | refine we_lenScr (by with_unfolding_all exact rfl) ?_ | refine we_cbK ?_) | refine we_int ?_ | refine we_bl ?_ | refine we_non ?_ | refine we_str ?_ | refine we_neg ?_ | refine we_not ?_ | refine we_and ?_ | refine we_or ?_ | refine we_if ?_ | refine we_tup ?_ | refine we_lst ?_ | refine we_call ?_ | refine we_mt (by with_unfolding_all exact rfl) ?_)
  | (with_reducible show WS _ _ _ _; with_reducible first | refine ws_seqA ?_ | refine ws_seqD ?_ | refine ws_asg (by with_unfolding_all exact rfl) ?_ | refine ws_asgG ?_ | refine ws_if ?_ | refine ws_ret ?_ | refine ws_drop ?_ | refine ws_next ?_ | refine ws_retN ?_)
  | (with_reducible show WT _ _ _; with_reducible first | refine wt_test ?_ | refine wt_B ?_ | refine wt_not ?_ | refine wt_and ?_ | refine wt_or ?_ | refine wt_yes ?_)
  | (with_reducible show WA _ _ _; with_reducible first | refine wa_nil ?_ | refine wa_cons (wq_of (we_var (by with_unfolding_all exact rfl) ?_)) | refine wa_slotU (by with_unfolding_all exact rfl) ?_ | refine wa_cons ?_)
  | (with_reducible show OpK _ _ _ _ _; with_reducible first | refine ok_plusI ?_ | refine ok_sub ?_ | refine ok_lt ?_ | refine ok_le ?_ | refine ok_gt ?_ | refine ok_ge ?_ | refine ok_eqI ?_ | refine ok_neI ?_ | refine ok_mod (by first | assumption | decide | omega) ?_ | refine ok_ixL (by with_unfolding_all exact rfl) ?_)
  | (with_reducible show CbK _ _ _ _; with_reducible first | refine ck_lenL ?_ | refine ck_lenT ?_ | refine ck_int ?_ | refine ck_intB ?_ | refine ck_max ?_ | refine ck_min ?_ | refine ck_list ?_)
  | with_reducible refine wq_of ?_
  | (with_reducible show WG _ _ _ _ _; with_reducible first | refine wg_name (by with_unfolding_all exact rfl) ?_ | refine wg_tup (by with_unfolding_all exact rfl) ?_ | refine wg_set (by with_unfolding_all exact rfl) ?_)
  | (with_reducible show WGs _ _ _ _ _; with_reducible first | refine wgs_cons ?_ | refine wgs_nil ?_)
  | with_reducible refine iteT ?_
  | with_reducible refine iteF ?_
  | with_reducible refine ⟨_, frz_per, ?_⟩
  | with_reducible refine ⟨_, frz_own, ?_⟩
  | refine ⟨_, rfl, ?_⟩
  | refine ⟨_, argD1, ?_⟩
  | refine ⟨_, argD2, ?_⟩
  | refine ⟨_, argD0, ?_⟩
  | refine ⟨_, argD3, ?_⟩
  | refine ⟨_, argD4, ?_⟩
  | refine ⟨_, _, rfl, rfl, rfl, ?_⟩
  | refine ⟨_, _, _, rfl, rfl, rfl, ?_⟩
  | refine ⟨(by simp only [List.length_cons, List.length_nil]; decide), ?_⟩
  | refine ⟨rfl, nd1, ?_⟩
  | refine ⟨rfl, nd0, ?_⟩)
local macro_rules | `(tactic| walk_at "go") => `(tactic| repeat walk_at "g1")
local macro_rules | `(tactic| walk_at "g2") => `(tactic| first
  | (with_reducible show WE _ _ _; with_reducible first | refine we_var (by with_unfolding_all exact rfl) ?_ | (show WE (tOp _ _ _) _ _; first | refine we_notN ?_ | refine we_ixS (by with_unfolding_all exact rfl) ?_ | refine we_ixScr (by with_unfolding_all exact rfl) ?_ | refine we_inS (by with_unfolding_all exact rfl) ?_ | refine we_notInS (by with_unfolding_all exact rfl) ?_ | refine we_eqS (by with_unfolding_all exact rfl) ?_ | refine we_neS (by with_unfolding_all exact rfl) ?_ | refine we_opK ?_) | (show WE (tCB _ _) _ _; first | refine we_isInt ?_ | refine we_isBl ?_ | refine we_isLst ?_ | refine we_isTup ?_ | refine we_lenO (by with_unfolding_all exact rfl) ?_ | refine we_lenS' (by with_unfolding_all exact rfl) ?_ | refine we_lenScr (by with_unfolding_all exact rfl) ?_ | refine we_cbK ?_) | refine we_chain ?_ | refine we_slice ?_ | refine we_int ?_ | refine we_bl ?_ | refine we_non ?_ | refine we_str ?_ | refine we_neg ?_ | refine we_not ?_ | refine we_and ?_ | refine we_or ?_ | refine we_if ?_ | refine we_tup ?_ | refine we_lst ?_ | refine we_call ?_ | refine we_mt (by with_unfolding_all exact rfl) ?_)
  | (with_reducible show WS _ _ _ _; with_reducible first | refine ws_seqA ?_ | refine ws_seqD ?_ | refine ws_asg (by with_unfolding_all exact rfl) ?_ | refine ws_asgG ?_ | refine ws_if ?_ | refine ws_ret ?_ | refine ws_drop ?_ | refine ws_next ?_ | refine ws_retN ?_)
  | (with_reducible show WT _ _ _; with_reducible first | refine wt_test ?_ | refine wt_B ?_ | refine wt_not ?_ | refine wt_and ?_ | refine wt_or ?_ | refine wt_yes ?_)
  | (with_reducible show WA _ _ _; with_reducible first | refine wa_nil ?_ | refine wa_cons (wq_of (we_var (by with_unfolding_all exact rfl) ?_)) | refine wa_slotU (by with_unfolding_all exact rfl) ?_ | refine wa_cons ?_)
  | (with_reducible show OpK _ _ _ _ _; with_reducible first | refine ok_isB ?_ | refine ok_notB ?_ | refine ok_plusI ?_ | refine ok_sub ?_ | refine ok_lt ?_ | refine ok_le ?_ | refine ok_gt ?_ | refine ok_ge ?_ | refine ok_eqI ?_ | refine ok_neI ?_ | refine ok_mod (by first | assumption | decide | omega) ?_ | refine ok_ixL (by with_unfolding_all exact rfl) ?_)
  | (with_reducible show CbK _ _ _ _; with_reducible first | refine ck_lenL ?_ | refine ck_lenT ?_ | refine ck_int ?_ | refine ck_intB ?_ | refine ck_max ?_ | refine ck_min ?_ | refine ck_list ?_)
  | with_reducible refine wq_of ?_
  | (with_reducible show WG _ _ _ _ _; with_reducible first | refine wg_name (by with_unfolding_all exact rfl) ?_ | refine wg_tup (by with_unfolding_all exact rfl) ?_ | refine wg_set (by with_unfolding_all exact rfl) ?_)
  | (with_reducible show WGs _ _ _ _ _; with_reducible first | refine wgs_cons ?_ | refine wgs_nil ?_)
  | (with_reducible show WO _ _ _; with_reducible first | refine wo_some ?_ | refine wo_none ?_)
  | refine ⟨_, argD5, ?_⟩
  | refine ⟨_, argD6, ?_⟩
  | refine ⟨_, argD7, ?_⟩
  | refine ⟨_, argD9, ?_⟩
  | with_reducible refine iteT ?_
  | with_reducible refine iteF ?_
  | with_reducible refine ⟨_, frz_per, ?_⟩
  | with_reducible refine ⟨_, frz_own, ?_⟩
  | refine ⟨_, rfl, ?_⟩
  | refine ⟨_, argD1, ?_⟩
  | refine ⟨_, argD2, ?_⟩
  | refine ⟨_, argD0, ?_⟩
  | refine ⟨_, argD3, ?_⟩
  | refine ⟨_, argD4, ?_⟩
  | refine ⟨_, _, rfl, rfl, rfl, ?_⟩
  | refine ⟨_, _, _, rfl, rfl, rfl, ?_⟩
  | refine ⟨(by simp only [List.length_cons, List.length_nil]; decide), ?_⟩
  | refine ⟨rfl, nd1, ?_⟩
  | refine ⟨rfl, nd0, ?_⟩)
local macro_rules | `(tactic| walk_at "g3") => `(tactic| first | with_reducible refine we_dnew ?_ | with_reducible refine ck_tuple ?_ | with_reducible refine we_repr ?_ | walk_at "g2")
def t_law_whole (K : PySem.W.Frag) : TS :=
  (tRet (tAndV (tCB (rIsiA K) (tCons (tVar 0) (tCons (tC (.ty "int")) tNil))) (tNotV (tCB (rIsiA K) (tCons (tVar 0) (tCons (tC (.ty "bool")) tNil))))))
abbrev N_law_whole : List Str := ["value"]
def wholeD : PyData → Bool
  | .int _ => true
  | _ => false
abbrev F_law_whole : Fw := fun gs kk _ => ∃ d, gs = [dat d] ∧ kk (dat (.bool (wholeD d))) [none]
abbrev sp_law_whole (K : PySem.W.Frag) : Sp := SpG 1 F_law_whole
theorem pure_law_whole {K : PySem.W.Frag} {vs : List V} {H : Hp} {Q : VK} {E : XK} (h : sp_law_whole K vs H Q E) : t_law_whole K { nx := fun _ H' => Q .non H', rt := Q } (L2.start N_law_whole vs) H := by
  refine body_ok (fun _ => false) ?_ h
  rintro gs kk xx ⟨d, rfl, hk⟩ -
  unfold t_law_whole
  repeat walk_at "g3"
  have out : ∀ {b : Bool}, wholeD d = b → ∃ g' Γp, Ent (dat (.bool b)) g' ∧ Les (mask (fun _ => false) 1 (List.map some [dat d] ++ List.replicate (N_law_whole.length - 1) none)) Γp ∧ kk g' Γp := fun {b} e => ⟨_, [none], Ent.refl, les_none les_nil, e ▸ hk⟩
  refine ite_b (fun e => ?_) fun e => out (by cases d <;> first | rfl | exact Bool.noConfusion e)
  repeat walk_at "g3"
  cases d <;> first | exact Bool.noConfusion e | exact out rfl
abbrev t_law_wholes_0 (K : PySem.W.Frag) : TS :=
  (tRet (tAndV (tCB (rIsiA K) (tCons (tVar 0) (tCons (tC (.ty "list")) tNil))) (tCB (rAllA K) (tCons (tLc (iList K (tVar 0)) (gName 1) tYes (tCall (sp_law_whole K) [] E0 (tCons (tVar 1) tNil)) [1]) tNil))))
def t_law_wholes (K : PySem.W.Frag) : TS :=
  (t_law_wholes_0 K)
abbrev N_law_wholes : List Str := ["value", "one"]
def wholesD : PyData → Bool
  | .list ds => ds.all wholeD
  | _ => false
abbrev F_law_wholes : Fw := fun gs kk _ => ∃ d, gs = [dat d] ∧ (∀ ds, d = .list ds → ds.length < 100000) ∧ kk (dat (.bool (wholesD d))) [none]
abbrev sp_law_wholes (K : PySem.W.Frag) : Sp := SpG 1 F_law_wholes
theorem pure_law_wholes {K : PySem.W.Frag} {vs : List V} {H : Hp} {Q : VK} {E : XK} (h : sp_law_wholes K vs H Q E) : t_law_wholes K { nx := fun _ H' => Q .non H', rt := Q } (L2.start N_law_wholes vs) H := by
  refine body_ok (fun _ => false) ?_ h
  rintro gs kk xx ⟨d, rfl, hz, hk⟩ -
  unfold t_law_wholes
  repeat walk_at "g3"
  refine ite_b (fun e => ?_) fun e => ⟨_, [none], Ent.refl, les_none les_nil, ?_⟩
  · cases d with
    | list ds =>
      repeat walk_at "g3"
      refine we_lc (fun i acc Γ => acc = (ds.take i).map (fun d => .bool (wholeD d)) ∧ Γ = [some (dat (.list ds)), none]) ?_
      refine wi_list ?_
      repeat walk_at "g3"
      refine ⟨⟨rfl, rfl⟩, ?_, ?_⟩
      · rintro acc Γ2 ⟨rfl, rfl⟩
        repeat walk_at "g3"
        rw [List.take_length]
        exact ck_allM ⟨_, [none], Ent.refl, les_none les_nil, hk⟩
      · rintro i acc Γ2 hi ⟨rfl, rfl⟩ -
        obtain ⟨x, hx⟩ := getD_of hi
        dsimp only
        rw [getD_at hx]
        refine wg_name rfl ?_
        refine wt_yes ?_
        refine iteT ?_
        repeat walk_at "g3"
        exact ⟨by rw [List.length_map, List.length_take]; have := hz ds rfl; omega, (take_map hx).symm, rfl⟩
    | bool b => exact Bool.noConfusion e
    | int b => exact Bool.noConfusion e
    | none => exact Bool.noConfusion e
    | str s => exact Bool.noConfusion e
    | tuple s => exact Bool.noConfusion e
    | dict s => exact Bool.noConfusion e
  · have : wholesD d = false := by cases d <;> first | rfl | exact Bool.noConfusion e
    rw [← this]
    exact hk
end G

namespace G
open PySem L2
local macro_rules | `(tactic| walk_at "g1") => `(tactic| first
  | (with_reducible show WE _ _ _; with_reducible first | refine we_var (by with_unfolding_all exact rfl) ?_ | (show WE (tOp _ _ _) _ _; first | refine we_ixS (by with_unfolding_all exact rfl) ?_ | refine we_ixScr (by with_unfolding_all exact rfl) ?_ | refine we_inS (by with_unfolding_all exact rfl) ?_ | refine we_notInS (by with_unfolding_all exact rfl) ?_ | refine we_eqS (by with_unfolding_all exact rfl) ?_ | refine we_neS (by with_unfolding_all exact rfl) ?_ | refine we_opK ?_) | (show WE (tCB _ _) _ _; first | refine we_lenS' (by with_unfolding_all exact rfl) ?_ | refine we_lenScr (by with_unfolding_all exact rfl) ?_ | refine we_cbK ?_) | refine we_int ?_ | refine we_bl ?_ | refine we_non ?_ | refine we_str ?_ | refine we_neg ?_ | refine we_not ?_ | refine we_and ?_ | refine we_or ?_ | refine we_if ?_ | refine we_tup ?_ | refine we_lst ?_ | refine we_call ?_ | refine we_mt (by with_unfolding_all exact rfl) ?_)
  | (with_reducible show WS _ _ _ _; with_reducible first | refine ws_seqA ?_ | refine ws_seqD ?_ | refine ws_asg (by with_unfolding_all exact rfl) ?_ | refine ws_asgG ?_ | refine ws_if ?_ | refine ws_ret ?_ | refine ws_drop ?_ | refine ws_next ?_ | refine ws_retN ?_)
  | (with_reducible show WT _ _ _; with_reducible first | refine wt_test ?_ | refine wt_B ?_ | refine wt_not ?_ | refine wt_and ?_ | refine wt_or ?_ | refine wt_yes ?_)
  | (with_reducible show WA _ _ _; with_reducible first | refine wa_nil ?_ | refine wa_cons (wq_of (we_var (by with_unfolding_all exact rfl) ?_)) | refine wa_slotU (by with_unfolding_all exact rfl) ?_ | refine wa_cons ?_)
  | (with_reducible show OpK _ _ _ _ _; with_reducible first | refine ok_plusI ?_ | refine ok_sub ?_ | refine ok_lt ?_ | refine ok_le ?_ | refine ok_gt ?_ | refine ok_ge ?_ | refine ok_eqI ?_ | refine ok_neI ?_ | refine ok_mod (by first | assumption | decide | omega) ?_ | refine ok_ixL (by with_unfolding_all exact rfl) ?_)
  | (with_reducible show CbK _ _ _ _; with_reducible first | refine ck_lenL ?_ | refine ck_lenT ?_ | refine ck_int ?_ | refine ck_intB ?_ | refine ck_max ?_ | refine ck_min ?_ | refine ck_list ?_)
  | with_reducible refine wq_of ?_
  | (with_reducible show WG _ _ _ _ _; with_reducible first | refine wg_name (by with_unfolding_all exact rfl) ?_ | refine wg_tup (by with_unfolding_all exact rfl) ?_ | refine wg_set (by with_unfolding_all exact rfl) ?_)
  | (with_reducible show WGs _ _ _ _ _; with_reducible first | refine wgs_cons ?_ | refine wgs_nil ?_)
  | with_reducible refine iteT ?_
  | with_reducible refine iteF ?_
  | with_reducible refine ⟨_, frz_per, ?_⟩
  | with_reducible refine ⟨_, frz_own, ?_⟩
  | refine ⟨_, rfl, ?_⟩
  | refine ⟨_, argD1, ?_⟩
  | refine ⟨_, argD2, ?_⟩
  | refine ⟨_, argD0, ?_⟩
  | refine ⟨_, argD3, ?_⟩
  | refine ⟨_, argD4, ?_⟩
  | refine ⟨_, _, rfl, rfl, rfl, ?_⟩
  | refine ⟨_, _, _, rfl, rfl, rfl, ?_⟩
  | refine ⟨(by simp only [List.length_cons, List.length_nil]; decide), ?_⟩
  | refine ⟨rfl, nd1, ?_⟩
  | refine ⟨rfl, nd0, ?_⟩)
local macro_rules | `(tactic| walk_at "go") => `(tactic| repeat walk_at "g1")
local macro_rules | `(tactic| walk_at "g2") => `(tactic| first
  | (with_reducible show WE _ _ _; with_reducible first | refine we_var (by with_unfolding_all exact rfl) ?_ | (show WE (tOp _ _ _) _ _; first | refine we_notN ?_ | refine we_ixS (by with_unfolding_all exact rfl) ?_ | refine we_ixScr (by with_unfolding_all exact rfl) ?_ | refine we_inS (by with_unfolding_all exact rfl) ?_ | refine we_notInS (by with_unfolding_all exact rfl) ?_ | refine we_eqS (by with_unfolding_all exact rfl) ?_ | refine we_neS (by with_unfolding_all exact rfl) ?_ | refine we_opK ?_) | (show WE (tCB _ _) _ _; first | refine we_isInt ?_ | refine we_isBl ?_ | refine we_isLst ?_ | refine we_isTup ?_ | refine we_lenO (by with_unfolding_all exact rfl) ?_ | refine we_lenS' (by with_unfolding_all exact rfl) ?_ | refine we_lenScr (by with_unfolding_all exact rfl) ?_ | refine we_cbK ?_) | refine we_chain ?_ | refine we_slice ?_ | refine we_int ?_ | refine we_bl ?_ | refine we_non ?_ | refine we_str ?_ | refine we_neg ?_ | refine we_not ?_ | refine we_and ?_ | refine we_or ?_ | refine we_if ?_ | refine we_tup ?_ | refine we_lst ?_ | refine we_call ?_ | refine we_mt (by with_unfolding_all exact rfl) ?_)
  | (with_reducible show WS _ _ _ _; with_reducible first | refine ws_seqA ?_ | refine ws_seqD ?_ | refine ws_asg (by with_unfolding_all exact rfl) ?_ | refine ws_asgG ?_ | refine ws_if ?_ | refine ws_ret ?_ | refine ws_drop ?_ | refine ws_next ?_ | refine ws_retN ?_)
  | (with_reducible show WT _ _ _; with_reducible first | refine wt_test ?_ | refine wt_B ?_ | refine wt_not ?_ | refine wt_and ?_ | refine wt_or ?_ | refine wt_yes ?_)
  | (with_reducible show WA _ _ _; with_reducible first | refine wa_nil ?_ | refine wa_cons (wq_of (we_var (by with_unfolding_all exact rfl) ?_)) | refine wa_slotU (by with_unfolding_all exact rfl) ?_ | refine wa_cons ?_)
  | (with_reducible show OpK _ _ _ _ _; with_reducible first | refine ok_isB ?_ | refine ok_notB ?_ | refine ok_plusI ?_ | refine ok_sub ?_ | refine ok_lt ?_ | refine ok_le ?_ | refine ok_gt ?_ | refine ok_ge ?_ | refine ok_eqI ?_ | refine ok_neI ?_ | refine ok_mod (by first | assumption | decide | omega) ?_ | refine ok_ixL (by with_unfolding_all exact rfl) ?_)
  | (with_reducible show CbK _ _ _ _; with_reducible first | refine ck_lenL ?_ | refine ck_lenT ?_ | refine ck_int ?_ | refine ck_intB ?_ | refine ck_max ?_ | refine ck_min ?_ | refine ck_list ?_)
  | with_reducible refine wq_of ?_
  | (with_reducible show WG _ _ _ _ _; with_reducible first | refine wg_name (by with_unfolding_all exact rfl) ?_ | refine wg_tup (by with_unfolding_all exact rfl) ?_ | refine wg_set (by with_unfolding_all exact rfl) ?_)
  | (with_reducible show WGs _ _ _ _ _; with_reducible first | refine wgs_cons ?_ | refine wgs_nil ?_)
  | (with_reducible show WO _ _ _; with_reducible first | refine wo_some ?_ | refine wo_none ?_)
  | refine ⟨_, argD5, ?_⟩
  | refine ⟨_, argD6, ?_⟩
  | refine ⟨_, argD7, ?_⟩
  | refine ⟨_, argD9, ?_⟩
  | with_reducible refine iteT ?_
  | with_reducible refine iteF ?_
  | with_reducible refine ⟨_, frz_per, ?_⟩
  | with_reducible refine ⟨_, frz_own, ?_⟩
  | refine ⟨_, rfl, ?_⟩
  | refine ⟨_, argD1, ?_⟩
  | refine ⟨_, argD2, ?_⟩
  | refine ⟨_, argD0, ?_⟩
  | refine ⟨_, argD3, ?_⟩
  | refine ⟨_, argD4, ?_⟩
  | refine ⟨_, _, rfl, rfl, rfl, ?_⟩
  | refine ⟨_, _, _, rfl, rfl, rfl, ?_⟩
  | refine ⟨(by simp only [List.length_cons, List.length_nil]; decide), ?_⟩
  | refine ⟨rfl, nd1, ?_⟩
  | refine ⟨rfl, nd0, ?_⟩)
local macro_rules | `(tactic| walk_at "g3") => `(tactic| first | with_reducible refine we_dnew ?_ | with_reducible refine ck_tuple ?_ | with_reducible refine we_repr ?_ | walk_at "g2")
end G

namespace G
open PySem L2
local macro_rules | `(tactic| walk_at "g1") => `(tactic| first
  | (with_reducible show WE _ _ _; with_reducible first | refine we_var (by with_unfolding_all exact rfl) ?_ | (show WE (tOp _ _ _) _ _; first | refine we_ixS (by with_unfolding_all exact rfl) ?_ | refine we_ixScr (by with_unfolding_all exact rfl) ?_ | refine we_inS (by with_unfolding_all exact rfl) ?_ | refine we_notInS (by with_unfolding_all exact rfl) ?_ | refine we_eqS (by with_unfolding_all exact rfl) ?_ | refine we_neS (by with_unfolding_all exact rfl) ?_ | refine we_opK ?_) | (show WE (tCB _ _) _ _; first | refine we_lenS' (by with_unfolding_all exact rfl) ?_ | refine we_lenScr (by with_unfolding_all exact rfl) ?_ | refine we_cbK ?_) | refine we_int ?_ | refine we_bl ?_ | refine we_non ?_ | refine we_str ?_ | refine we_neg ?_ | refine we_not ?_ | refine we_and ?_ | refine we_or ?_ | refine we_if ?_ | refine we_tup ?_ | refine we_lst ?_ | refine we_call ?_ | refine we_mt (by with_unfolding_all exact rfl) ?_)
  | (with_reducible show WS _ _ _ _; with_reducible first | refine ws_seqA ?_ | refine ws_seqD ?_ | refine ws_asg (by with_unfolding_all exact rfl) ?_ | refine ws_asgG ?_ | refine ws_if ?_ | refine ws_ret ?_ | refine ws_drop ?_ | refine ws_next ?_ | refine ws_retN ?_)
  | (with_reducible show WT _ _ _; with_reducible first | refine wt_test ?_ | refine wt_B ?_ | refine wt_not ?_ | refine wt_and ?_ | refine wt_or ?_ | refine wt_yes ?_)
  | (with_reducible show WA _ _ _; with_reducible first | refine wa_nil ?_ | refine wa_cons (wq_of (we_var (by with_unfolding_all exact rfl) ?_)) | refine wa_slotU (by with_unfolding_all exact rfl) ?_ | refine wa_cons ?_)
  | (with_reducible show OpK _ _ _ _ _; with_reducible first | refine ok_plusI ?_ | refine ok_sub ?_ | refine ok_lt ?_ | refine ok_le ?_ | refine ok_gt ?_ | refine ok_ge ?_ | refine ok_eqI ?_ | refine ok_neI ?_ | refine ok_mod (by first | assumption | decide | omega) ?_ | refine ok_ixL (by with_unfolding_all exact rfl) ?_)
  | (with_reducible show CbK _ _ _ _; with_reducible first | refine ck_lenL ?_ | refine ck_lenT ?_ | refine ck_int ?_ | refine ck_intB ?_ | refine ck_max ?_ | refine ck_min ?_ | refine ck_list ?_)
  | with_reducible refine wq_of ?_
  | (with_reducible show WG _ _ _ _ _; with_reducible first | refine wg_name (by with_unfolding_all exact rfl) ?_ | refine wg_tup (by with_unfolding_all exact rfl) ?_ | refine wg_set (by with_unfolding_all exact rfl) ?_)
  | (with_reducible show WGs _ _ _ _ _; with_reducible first | refine wgs_cons ?_ | refine wgs_nil ?_)
  | with_reducible refine iteT ?_
  | with_reducible refine iteF ?_
  | with_reducible refine ⟨_, frz_per, ?_⟩
  | with_reducible refine ⟨_, frz_own, ?_⟩
  | refine ⟨_, rfl, ?_⟩
  | refine ⟨_, argD1, ?_⟩
  | refine ⟨_, argD2, ?_⟩
  | refine ⟨_, argD0, ?_⟩
  | refine ⟨_, argD3, ?_⟩
  | refine ⟨_, argD4, ?_⟩
  | refine ⟨_, _, rfl, rfl, rfl, ?_⟩
  | refine ⟨_, _, _, rfl, rfl, rfl, ?_⟩
  | refine ⟨(by simp only [List.length_cons, List.length_nil]; decide), ?_⟩
  | refine ⟨rfl, nd1, ?_⟩
  | refine ⟨rfl, nd0, ?_⟩)
local macro_rules | `(tactic| walk_at "go") => `(tactic| repeat walk_at "g1")
local macro_rules | `(tactic| walk_at "g2") => `(tactic| first
  | (with_reducible show WE _ _ _; with_reducible first | refine we_var (by with_unfolding_all exact rfl) ?_ | (show WE (tOp _ _ _) _ _; first | refine we_notN ?_ | refine we_ixS (by with_unfolding_all exact rfl) ?_ | refine we_ixScr (by with_unfolding_all exact rfl) ?_ | refine we_inS (by with_unfolding_all exact rfl) ?_ | refine we_notInS (by with_unfolding_all exact rfl) ?_ | refine we_eqS (by with_unfolding_all exact rfl) ?_ | refine we_neS (by with_unfolding_all exact rfl) ?_ | refine we_opK ?_) | (show WE (tCB _ _) _ _; first | refine we_isInt ?_ | refine we_isBl ?_ | refine we_isLst ?_ | refine we_isTup ?_ | refine we_lenO (by with_unfolding_all exact rfl) ?_ | refine we_lenS' (by with_unfolding_all exact rfl) ?_ | refine we_lenScr (by with_unfolding_all exact rfl) ?_ | refine we_cbK ?_) | refine we_chain ?_ | refine we_slice ?_ | refine we_int ?_ | refine we_bl ?_ | refine we_non ?_ | refine we_str ?_ | refine we_neg ?_ | refine we_not ?_ | refine we_and ?_ | refine we_or ?_ | refine we_if ?_ | refine we_tup ?_ | refine we_lst ?_ | refine we_call ?_ | refine we_mt (by with_unfolding_all exact rfl) ?_)
  | (with_reducible show WS _ _ _ _; with_reducible first | refine ws_seqA ?_ | refine ws_seqD ?_ | refine ws_asg (by with_unfolding_all exact rfl) ?_ | refine ws_asgG ?_ | refine ws_if ?_ | refine ws_ret ?_ | refine ws_drop ?_ | refine ws_next ?_ | refine ws_retN ?_)
  | (with_reducible show WT _ _ _; with_reducible first | refine wt_test ?_ | refine wt_B ?_ | refine wt_not ?_ | refine wt_and ?_ | refine wt_or ?_ | refine wt_yes ?_)
  | (with_reducible show WA _ _ _; with_reducible first | refine wa_nil ?_ | refine wa_cons (wq_of (we_var (by with_unfolding_all exact rfl) ?_)) | refine wa_slotU (by with_unfolding_all exact rfl) ?_ | refine wa_cons ?_)
  | (with_reducible show OpK _ _ _ _ _; with_reducible first | refine ok_isB ?_ | refine ok_notB ?_ | refine ok_plusI ?_ | refine ok_sub ?_ | refine ok_lt ?_ | refine ok_le ?_ | refine ok_gt ?_ | refine ok_ge ?_ | refine ok_eqI ?_ | refine ok_neI ?_ | refine ok_mod (by first | assumption | decide | omega) ?_ | refine ok_ixL (by with_unfolding_all exact rfl) ?_)
  | (with_reducible show CbK _ _ _ _; with_reducible first | refine ck_lenL ?_ | refine ck_lenT ?_ | refine ck_int ?_ | refine ck_intB ?_ | refine ck_max ?_ | refine ck_min ?_ | refine ck_list ?_)
  | with_reducible refine wq_of ?_
  | (with_reducible show WG _ _ _ _ _; with_reducible first | refine wg_name (by with_unfolding_all exact rfl) ?_ | refine wg_tup (by with_unfolding_all exact rfl) ?_ | refine wg_set (by with_unfolding_all exact rfl) ?_)
  | (with_reducible show WGs _ _ _ _ _; with_reducible first | refine wgs_cons ?_ | refine wgs_nil ?_)
  | (with_reducible show WO _ _ _; with_reducible first | refine wo_some ?_ | refine wo_none ?_)
  | refine ⟨_, argD5, ?_⟩
  | refine ⟨_, argD6, ?_⟩
  | refine ⟨_, argD7, ?_⟩
  | refine ⟨_, argD9, ?_⟩
  | with_reducible refine iteT ?_
  | with_reducible refine iteF ?_
  | with_reducible refine ⟨_, frz_per, ?_⟩
  | with_reducible refine ⟨_, frz_own, ?_⟩
  | refine ⟨_, rfl, ?_⟩
  | refine ⟨_, argD1, ?_⟩
  | refine ⟨_, argD2, ?_⟩
  | refine ⟨_, argD0, ?_⟩
  | refine ⟨_, argD3, ?_⟩
  | refine ⟨_, argD4, ?_⟩
  | refine ⟨_, _, rfl, rfl, rfl, ?_⟩
  | refine ⟨_, _, _, rfl, rfl, rfl, ?_⟩
  | refine ⟨(by simp only [List.length_cons, List.length_nil]; decide), ?_⟩
  | refine ⟨rfl, nd1, ?_⟩
  | refine ⟨rfl, nd0, ?_⟩)
local macro_rules | `(tactic| walk_at "g3") => `(tactic| first | with_reducible refine we_dnew ?_ | with_reducible refine ck_tuple ?_ | with_reducible refine we_repr ?_ | with_reducible refine we_lenSetI ?_ | with_reducible refine we_revL ?_ | with_reducible refine wt_truL ?_ | walk_at "g2")
theorem webF_no {n : Nat} {ts : List (Int × Int)} {m : Str} (h1 : ("_ties" : Str) ≠ m) (h2 : ("_near" : Str) ≠ m) : lookD m (webF n ts) = none := by
  show (if ("_ties" : Str) = m then _ else if ("_near" : Str) = m then _ else none) = none
  rw [if_neg h1, if_neg h2]
end G

namespace G
open PySem L2
local macro_rules | `(tactic| walk_at "g1") => `(tactic| first
  | (with_reducible show WE _ _ _; with_reducible first | refine we_var (by with_unfolding_all exact rfl) ?_ | (show WE (tOp _ _ _) _ _; first | refine we_ixS (by with_unfolding_all exact rfl) ?_ | refine we_ixScr (by with_unfolding_all exact rfl) ?_ | refine we_inS (by with_unfolding_all exact rfl) ?_ | refine we_notInS (by with_unfolding_all exact rfl) ?_ | refine we_eqS (by with_unfolding_all exact rfl) ?_ | refine we_neS (by with_unfolding_all exact rfl) ?_ | refine we_opK ?_) | (show WE (tCB _ _) _ _; first | refine we_lenS' (by with_unfolding_all exact rfl) ?_ | refine we_lenScr (by with_unfolding_all exact rfl) ?_ | refine we_cbK ?_) | refine we_int ?_ | refine we_bl ?_ | refine we_non ?_ | refine we_str ?_ | refine we_neg ?_ | refine we_not ?_ | refine we_and ?_ | refine we_or ?_ | refine we_if ?_ | refine we_tup ?_ | refine we_lst ?_ | refine we_call ?_ | refine we_mt (by with_unfolding_all exact rfl) ?_)
  | (with_reducible show WS _ _ _ _; with_reducible first | refine ws_seqA ?_ | refine ws_seqD ?_ | refine ws_asg (by with_unfolding_all exact rfl) ?_ | refine ws_asgG ?_ | refine ws_if ?_ | refine ws_ret ?_ | refine ws_drop ?_ | refine ws_next ?_ | refine ws_retN ?_)
  | (with_reducible show WT _ _ _; with_reducible first | refine wt_test ?_ | refine wt_B ?_ | refine wt_not ?_ | refine wt_and ?_ | refine wt_or ?_ | refine wt_yes ?_)
  | (with_reducible show WA _ _ _; with_reducible first | refine wa_nil ?_ | refine wa_cons (wq_of (we_var (by with_unfolding_all exact rfl) ?_)) | refine wa_slotU (by with_unfolding_all exact rfl) ?_ | refine wa_cons ?_)
  | (with_reducible show OpK _ _ _ _ _; with_reducible first | refine ok_plusI ?_ | refine ok_sub ?_ | refine ok_lt ?_ | refine ok_le ?_ | refine ok_gt ?_ | refine ok_ge ?_ | refine ok_eqI ?_ | refine ok_neI ?_ | refine ok_mod (by first | assumption | decide | omega) ?_ | refine ok_ixL (by with_unfolding_all exact rfl) ?_)
  | (with_reducible show CbK _ _ _ _; with_reducible first | refine ck_lenL ?_ | refine ck_lenT ?_ | refine ck_int ?_ | refine ck_intB ?_ | refine ck_max ?_ | refine ck_min ?_ | refine ck_list ?_)
  | with_reducible refine wq_of ?_
  | (with_reducible show WG _ _ _ _ _; with_reducible first | refine wg_name (by with_unfolding_all exact rfl) ?_ | refine wg_tup (by with_unfolding_all exact rfl) ?_ | refine wg_set (by with_unfolding_all exact rfl) ?_)
  | (with_reducible show WGs _ _ _ _ _; with_reducible first | refine wgs_cons ?_ | refine wgs_nil ?_)
  | with_reducible refine iteT ?_
  | with_reducible refine iteF ?_
  | with_reducible refine ⟨_, frz_per, ?_⟩
  | with_reducible refine ⟨_, frz_own, ?_⟩
  | refine ⟨_, rfl, ?_⟩
  | refine ⟨_, argD1, ?_⟩
  | refine ⟨_, argD2, ?_⟩
  | refine ⟨_, argD0, ?_⟩
  | refine ⟨_, argD3, ?_⟩
  | refine ⟨_, argD4, ?_⟩
  | refine ⟨_, _, rfl, rfl, rfl, ?_⟩
  | refine ⟨_, _, _, rfl, rfl, rfl, ?_⟩
  | refine ⟨(by simp only [List.length_cons, List.length_nil]; decide), ?_⟩
  | refine ⟨rfl, nd1, ?_⟩
  | refine ⟨rfl, nd0, ?_⟩)
local macro_rules | `(tactic| walk_at "go") => `(tactic| repeat walk_at "g1")
local macro_rules | `(tactic| walk_at "g2") => `(tactic| first
  | (with_reducible show WE _ _ _; with_reducible first | refine we_var (by with_unfolding_all exact rfl) ?_ | (show WE (tOp _ _ _) _ _; first | refine we_notN ?_ | refine we_ixS (by with_unfolding_all exact rfl) ?_ | refine we_ixScr (by with_unfolding_all exact rfl) ?_ | refine we_inS (by with_unfolding_all exact rfl) ?_ | refine we_notInS (by with_unfolding_all exact rfl) ?_ | refine we_eqS (by with_unfolding_all exact rfl) ?_ | refine we_neS (by with_unfolding_all exact rfl) ?_ | refine we_opK ?_) | (show WE (tCB _ _) _ _; first | refine we_isInt ?_ | refine we_isBl ?_ | refine we_isLst ?_ | refine we_isTup ?_ | refine we_lenO (by with_unfolding_all exact rfl) ?_ | refine we_lenS' (by with_unfolding_all exact rfl) ?_ | refine we_lenScr (by with_unfolding_all exact rfl) ?_ | refine we_cbK ?_) | refine we_chain ?_ | refine we_slice ?_ | refine we_int ?_ | refine we_bl ?_ | refine we_non ?_ | refine we_str ?_ | refine we_neg ?_ | refine we_not ?_ | refine we_and ?_ | refine we_or ?_ | refine we_if ?_ | refine we_tup ?_ | refine we_lst ?_ | refine we_call ?_ | refine we_mt (by with_unfolding_all exact rfl) ?_)
  | (with_reducible show WS _ _ _ _; with_reducible first | refine ws_seqA ?_ | refine ws_seqD ?_ | refine ws_asg (by with_unfolding_all exact rfl) ?_ | refine ws_asgG ?_ | refine ws_if ?_ | refine ws_ret ?_ | refine ws_drop ?_ | refine ws_next ?_ | refine ws_retN ?_)
  | (with_reducible show WT _ _ _; with_reducible first | refine wt_test ?_ | refine wt_B ?_ | refine wt_not ?_ | refine wt_and ?_ | refine wt_or ?_ | refine wt_yes ?_)
  | (with_reducible show WA _ _ _; with_reducible first | refine wa_nil ?_ | refine wa_cons (wq_of (we_var (by with_unfolding_all exact rfl) ?_)) | refine wa_slotU (by with_unfolding_all exact rfl) ?_ | refine wa_cons ?_)
  | (with_reducible show OpK _ _ _ _ _; with_reducible first | refine ok_isB ?_ | refine ok_notB ?_ | refine ok_plusI ?_ | refine ok_sub ?_ | refine ok_lt ?_ | refine ok_le ?_ | refine ok_gt ?_ | refine ok_ge ?_ | refine ok_eqI ?_ | refine ok_neI ?_ | refine ok_mod (by first | assumption | decide | omega) ?_ | refine ok_ixL (by with_unfolding_all exact rfl) ?_)
  | (with_reducible show CbK _ _ _ _; with_reducible first | refine ck_lenL ?_ | refine ck_lenT ?_ | refine ck_int ?_ | refine ck_intB ?_ | refine ck_max ?_ | refine ck_min ?_ | refine ck_list ?_)
  | with_reducible refine wq_of ?_
  | (with_reducible show WG _ _ _ _ _; with_reducible first | refine wg_name (by with_unfolding_all exact rfl) ?_ | refine wg_tup (by with_unfolding_all exact rfl) ?_ | refine wg_set (by with_unfolding_all exact rfl) ?_)
  | (with_reducible show WGs _ _ _ _ _; with_reducible first | refine wgs_cons ?_ | refine wgs_nil ?_)
  | (with_reducible show WO _ _ _; with_reducible first | refine wo_some ?_ | refine wo_none ?_)
  | refine ⟨_, argD5, ?_⟩
  | refine ⟨_, argD6, ?_⟩
  | refine ⟨_, argD7, ?_⟩
  | refine ⟨_, argD9, ?_⟩
  | with_reducible refine iteT ?_
  | with_reducible refine iteF ?_
  | with_reducible refine ⟨_, frz_per, ?_⟩
  | with_reducible refine ⟨_, frz_own, ?_⟩
  | refine ⟨_, rfl, ?_⟩
  | refine ⟨_, argD1, ?_⟩
  | refine ⟨_, argD2, ?_⟩
  | refine ⟨_, argD0, ?_⟩
  | refine ⟨_, argD3, ?_⟩
  | refine ⟨_, argD4, ?_⟩
  | refine ⟨_, _, rfl, rfl, rfl, ?_⟩
  | refine ⟨_, _, _, rfl, rfl, rfl, ?_⟩
  | refine ⟨(by simp only [List.length_cons, List.length_nil]; decide), ?_⟩
  | refine ⟨rfl, nd1, ?_⟩
  | refine ⟨rfl, nd0, ?_⟩)
local macro_rules | `(tactic| walk_at "g3") => `(tactic| first | with_reducible refine we_dnew ?_ | with_reducible refine ck_tuple ?_ | with_reducible refine we_repr ?_ | with_reducible refine we_lenSetI ?_ | with_reducible refine we_revL ?_ | with_reducible refine wt_truL ?_ | walk_at "g2")
def placeB (n : Nat) : PyData → Bool
  | .int i => decide (0 ≤ i) && decide (i < n)
  | _ => false
abbrev F_Web_neighbours (a : Ad) : Fw := fun gs kk xx => ∃ (n : Nat) (ts : List (Int × Int)) (d : PyData), gs = [per (objP a.C_Web (webF n ts)), dat d] ∧ n < 100000 ∧ Valid n ts ∧
  (∀ w : Nat, d = .int w → w < n → kk (own ((nb ts w).map .int)) [none, none]) ∧ (placeB n d = false → xx (.ref a.C_InvalidPlace) [none, none])
abbrev sp_Web_neighbours (K : PySem.W.Frag) (a : Ad) : Sp := SpG 2 (F_Web_neighbours a)
end G

namespace G
open PySem L2
local macro_rules | `(tactic| walk_at "g1") => `(tactic| first
  | (with_reducible show WE _ _ _; with_reducible first | refine we_var (by with_unfolding_all exact rfl) ?_ | (show WE (tOp _ _ _) _ _; first | refine we_ixS (by with_unfolding_all exact rfl) ?_ | refine we_ixScr (by with_unfolding_all exact rfl) ?_ | refine we_inS (by with_unfolding_all exact rfl) ?_ | refine we_notInS (by with_unfolding_all exact rfl) ?_ | refine we_eqS (by with_unfolding_all exact rfl) ?_ | refine we_neS (by with_unfolding_all exact rfl) ?_ | refine we_opK ?_) | (show WE (tCB _ _) _ _; first | refine we_lenS' (by with_unfolding_all exact rfl) ?_ | refine we_lenScr (by with_unfolding_all exact rfl) ?_ | refine we_cbK ?_) | refine we_int ?_ | refine we_bl ?_ | refine we_non ?_ | refine we_str ?_ | refine we_neg ?_ | refine we_not ?_ | refine we_and ?_ | refine we_or ?_ | refine we_if ?_ | refine we_tup ?_ | refine we_lst ?_ | refine we_call ?_ | refine we_mt (by with_unfolding_all exact rfl) ?_)
  | (with_reducible show WS _ _ _ _; with_reducible first | refine ws_seqA ?_ | refine ws_seqD ?_ | refine ws_asg (by with_unfolding_all exact rfl) ?_ | refine ws_asgG ?_ | refine ws_if ?_ | refine ws_ret ?_ | refine ws_drop ?_ | refine ws_next ?_ | refine ws_retN ?_)
  | (with_reducible show WT _ _ _; with_reducible first | refine wt_test ?_ | refine wt_B ?_ | refine wt_not ?_ | refine wt_and ?_ | refine wt_or ?_ | refine wt_yes ?_)
  | (with_reducible show WA _ _ _; with_reducible first | refine wa_nil ?_ | refine wa_cons (wq_of (we_var (by with_unfolding_all exact rfl) ?_)) | refine wa_slotU (by with_unfolding_all exact rfl) ?_ | refine wa_cons ?_)
  | (with_reducible show OpK _ _ _ _ _; with_reducible first | refine ok_plusI ?_ | refine ok_sub ?_ | refine ok_lt ?_ | refine ok_le ?_ | refine ok_gt ?_ | refine ok_ge ?_ | refine ok_eqI ?_ | refine ok_neI ?_ | refine ok_mod (by first | assumption | decide | omega) ?_ | refine ok_ixL (by with_unfolding_all exact rfl) ?_)
  | (with_reducible show CbK _ _ _ _; with_reducible first | refine ck_lenL ?_ | refine ck_lenT ?_ | refine ck_int ?_ | refine ck_intB ?_ | refine ck_max ?_ | refine ck_min ?_ | refine ck_list ?_)
  | with_reducible refine wq_of ?_
  | (with_reducible show WG _ _ _ _ _; with_reducible first | refine wg_name (by with_unfolding_all exact rfl) ?_ | refine wg_tup (by with_unfolding_all exact rfl) ?_ | refine wg_set (by with_unfolding_all exact rfl) ?_)
  | (with_reducible show WGs _ _ _ _ _; with_reducible first | refine wgs_cons ?_ | refine wgs_nil ?_)
  | with_reducible refine iteT ?_
  | with_reducible refine iteF ?_
  | with_reducible refine ⟨_, frz_per, ?_⟩
  | with_reducible refine ⟨_, frz_own, ?_⟩
  | refine ⟨_, rfl, ?_⟩
  | refine ⟨_, argD1, ?_⟩
  | refine ⟨_, argD2, ?_⟩
  | refine ⟨_, argD0, ?_⟩
  | refine ⟨_, argD3, ?_⟩
  | refine ⟨_, argD4, ?_⟩
  | refine ⟨_, _, rfl, rfl, rfl, ?_⟩
  | refine ⟨_, _, _, rfl, rfl, rfl, ?_⟩
  | refine ⟨(by simp only [List.length_cons, List.length_nil]; decide), ?_⟩
  | refine ⟨rfl, nd1, ?_⟩
  | refine ⟨rfl, nd0, ?_⟩)
local macro_rules | `(tactic| walk_at "go") => `(tactic| repeat walk_at "g1")
local macro_rules | `(tactic| walk_at "g2") => `(tactic| first
  | (with_reducible show WE _ _ _; with_reducible first | refine we_var (by with_unfolding_all exact rfl) ?_ | (show WE (tOp _ _ _) _ _; first | refine we_notN ?_ | refine we_ixS (by with_unfolding_all exact rfl) ?_ | refine we_ixScr (by with_unfolding_all exact rfl) ?_ | refine we_inS (by with_unfolding_all exact rfl) ?_ | refine we_notInS (by with_unfolding_all exact rfl) ?_ | refine we_eqS (by with_unfolding_all exact rfl) ?_ | refine we_neS (by with_unfolding_all exact rfl) ?_ | refine we_opK ?_) | (show WE (tCB _ _) _ _; first | refine we_isInt ?_ | refine we_isBl ?_ | refine we_isLst ?_ | refine we_isTup ?_ | refine we_lenO (by with_unfolding_all exact rfl) ?_ | refine we_lenS' (by with_unfolding_all exact rfl) ?_ | refine we_lenScr (by with_unfolding_all exact rfl) ?_ | refine we_cbK ?_) | refine we_chain ?_ | refine we_slice ?_ | refine we_int ?_ | refine we_bl ?_ | refine we_non ?_ | refine we_str ?_ | refine we_neg ?_ | refine we_not ?_ | refine we_and ?_ | refine we_or ?_ | refine we_if ?_ | refine we_tup ?_ | refine we_lst ?_ | refine we_call ?_ | refine we_mt (by with_unfolding_all exact rfl) ?_)
  | (with_reducible show WS _ _ _ _; with_reducible first | refine ws_seqA ?_ | refine ws_seqD ?_ | refine ws_asg (by with_unfolding_all exact rfl) ?_ | refine ws_asgG ?_ | refine ws_if ?_ | refine ws_ret ?_ | refine ws_drop ?_ | refine ws_next ?_ | refine ws_retN ?_)
  | (with_reducible show WT _ _ _; with_reducible first | refine wt_test ?_ | refine wt_B ?_ | refine wt_not ?_ | refine wt_and ?_ | refine wt_or ?_ | refine wt_yes ?_)
  | (with_reducible show WA _ _ _; with_reducible first | refine wa_nil ?_ | refine wa_cons (wq_of (we_var (by with_unfolding_all exact rfl) ?_)) | refine wa_slotU (by with_unfolding_all exact rfl) ?_ | refine wa_cons ?_)
  | (with_reducible show OpK _ _ _ _ _; with_reducible first | refine ok_isB ?_ | refine ok_notB ?_ | refine ok_plusI ?_ | refine ok_sub ?_ | refine ok_lt ?_ | refine ok_le ?_ | refine ok_gt ?_ | refine ok_ge ?_ | refine ok_eqI ?_ | refine ok_neI ?_ | refine ok_mod (by first | assumption | decide | omega) ?_ | refine ok_ixL (by with_unfolding_all exact rfl) ?_)
  | (with_reducible show CbK _ _ _ _; with_reducible first | refine ck_lenL ?_ | refine ck_lenT ?_ | refine ck_int ?_ | refine ck_intB ?_ | refine ck_max ?_ | refine ck_min ?_ | refine ck_list ?_)
  | with_reducible refine wq_of ?_
  | (with_reducible show WG _ _ _ _ _; with_reducible first | refine wg_name (by with_unfolding_all exact rfl) ?_ | refine wg_tup (by with_unfolding_all exact rfl) ?_ | refine wg_set (by with_unfolding_all exact rfl) ?_)
  | (with_reducible show WGs _ _ _ _ _; with_reducible first | refine wgs_cons ?_ | refine wgs_nil ?_)
  | (with_reducible show WO _ _ _; with_reducible first | refine wo_some ?_ | refine wo_none ?_)
  | refine ⟨_, argD5, ?_⟩
  | refine ⟨_, argD6, ?_⟩
  | refine ⟨_, argD7, ?_⟩
  | refine ⟨_, argD9, ?_⟩
  | with_reducible refine iteT ?_
  | with_reducible refine iteF ?_
  | with_reducible refine ⟨_, frz_per, ?_⟩
  | with_reducible refine ⟨_, frz_own, ?_⟩
  | refine ⟨_, rfl, ?_⟩
  | refine ⟨_, argD1, ?_⟩
  | refine ⟨_, argD2, ?_⟩
  | refine ⟨_, argD0, ?_⟩
  | refine ⟨_, argD3, ?_⟩
  | refine ⟨_, argD4, ?_⟩
  | refine ⟨_, _, rfl, rfl, rfl, ?_⟩
  | refine ⟨_, _, _, rfl, rfl, rfl, ?_⟩
  | refine ⟨(by simp only [List.length_cons, List.length_nil]; decide), ?_⟩
  | refine ⟨rfl, nd1, ?_⟩
  | refine ⟨rfl, nd0, ?_⟩)
local macro_rules | `(tactic| walk_at "w") => `(tactic| first
  | (with_reducible show WE _ _ _; with_reducible first | refine we_var (by with_unfolding_all exact rfl) ?_ | refine we_varF (by with_unfolding_all exact rfl) frz_own ?_ | (show WE (tOp _ _ _) _ _; first | refine we_isNd ?_ | refine we_notNd ?_ | refine we_notN ?_ | refine we_ixS (by with_unfolding_all exact rfl) ?_ | refine we_ixScr (by with_unfolding_all exact rfl) ?_ | refine we_inS (by with_unfolding_all exact rfl) ?_ | refine we_notInS (by with_unfolding_all exact rfl) ?_ | refine we_eqS (by with_unfolding_all exact rfl) ?_ | refine we_neS (by with_unfolding_all exact rfl) ?_ | refine we_opK ?_) | (show WE (tCB _ _) _ _; first | refine we_repr ?_ | refine we_isInt ?_ | refine we_isBl ?_ | refine we_isLst ?_ | refine we_isTup ?_ | refine we_lenO (by with_unfolding_all exact rfl) ?_ | refine we_lenS' (by with_unfolding_all exact rfl) ?_ | refine we_lenScr (by with_unfolding_all exact rfl) ?_ | refine we_cbK ?_) | refine we_dnew ?_ | refine we_lenSetI ?_ | refine we_revL ?_ | refine we_chain ?_ | refine we_slice ?_ | refine we_int ?_ | refine we_bl ?_ | refine we_non ?_ | refine we_str ?_ | refine we_neg ?_ | refine we_not ?_ | refine we_and ?_ | refine we_or ?_ | refine we_if ?_ | refine we_tup ?_ | refine we_lst ?_ | refine we_call ?_ | refine we_mt (by with_unfolding_all exact rfl) ?_)
  | (with_reducible show WS _ _ _ _; with_reducible first | refine ws_seqI ?_ | refine ws_seqA ?_ | refine ws_seqD ?_ | refine ws_asg (by with_unfolding_all exact rfl) ?_ | refine ws_asgG ?_ | refine ws_if ?_ | refine ws_ret ?_ | refine ws_drop ?_ | refine ws_next ?_ | refine ws_retN ?_)
  | (with_reducible show WT _ _ _; with_reducible first | refine wt_truL ?_ | refine wt_test ?_ | refine wt_B ?_ | refine wt_not ?_ | refine wt_and ?_ | refine wt_or ?_ | refine wt_yes ?_)
  | (with_reducible show WA _ _ _; with_reducible first | refine wa_nil ?_ | refine wa_cons (wq_of (we_var (by with_unfolding_all exact rfl) ?_)) | refine wa_slotU (by with_unfolding_all exact rfl) ?_ | refine wa_cons ?_)
  | (with_reducible show OpK _ _ _ _ _; with_reducible first | refine ok_neR ?_ | refine ok_eqR ?_ | refine ok_isB ?_ | refine ok_notB ?_ | refine ok_plusI ?_ | refine ok_sub ?_ | refine ok_lt ?_ | refine ok_le ?_ | refine ok_gt ?_ | refine ok_ge ?_ | refine ok_eqI ?_ | refine ok_neI ?_ | refine ok_mod (by first | assumption | decide | omega) ?_ | refine ok_ixL (by with_unfolding_all exact rfl) ?_)
  | (with_reducible show CbK _ _ _ _; with_reducible first | refine ck_tuple ?_ | refine ck_allF ?_ | refine ck_anyF ?_ | refine ck_abs ?_ | refine ck_sumI ?_ | refine ck_lenL ?_ | refine ck_lenT ?_ | refine ck_int ?_ | refine ck_intB ?_ | refine ck_max ?_ | refine ck_min ?_ | refine ck_list ?_)
  | with_reducible refine wq_of ?_
  | (with_reducible show WG _ _ _ _ _; with_reducible first | refine wg_name (by with_unfolding_all exact rfl) ?_ | refine wg_tup (by with_unfolding_all exact rfl) ?_ | refine wg_set (by with_unfolding_all exact rfl) ?_)
  | (with_reducible show WGs _ _ _ _ _; with_reducible first | refine wgs_cons ?_ | refine wgs_nil ?_)
  | (with_reducible show WO _ _ _; with_reducible first | refine wo_some ?_ | refine wo_none ?_)
  | refine ⟨_, argD5, ?_⟩
  | refine ⟨_, argD6, ?_⟩
  | refine ⟨_, argD7, ?_⟩
  | refine ⟨_, argD9, ?_⟩
  | with_reducible refine iteT ?_
  | with_reducible refine iteF ?_
  | with_reducible refine ⟨_, frz_per, ?_⟩
  | with_reducible refine ⟨_, frz_own, ?_⟩
  | refine ⟨_, rfl, ?_⟩
  | refine ⟨_, argD1, ?_⟩
  | refine ⟨_, argD2, ?_⟩
  | refine ⟨_, argD0, ?_⟩
  | refine ⟨_, argD3, ?_⟩
  | refine ⟨_, argD4, ?_⟩
  | refine ⟨_, _, rfl, rfl, rfl, ?_⟩
  | refine ⟨_, _, _, rfl, rfl, rfl, ?_⟩
  | refine ⟨(by simp only [List.length_cons, List.length_nil]; decide), ?_⟩
  | refine ⟨rfl, nd1, ?_⟩
  | refine ⟨rfl, nd0, ?_⟩
  | refine ⟨_, argD8, ?_⟩
  | refine ⟨_, argD10, ?_⟩)
/-! ### what is asked of a web, as rules -/
section
variable {K : PySem.W.Frag} {a : Ad} {Γ : Ga} {k : Gp → Ga → Prop} {tr : TA} {E : XK} {n : Nat} {ts : List (Int × Int)}
theorem we_lenWeb {i : Nat} (h : Γ[i]? = some (some (per (objP a.C_Web (webF n ts))))) (hn : n < 100000) (hk : k (dat (.int n)) Γ) : WE (tCB (rLenOwn a.C_Web (sp_Web_len_ K a) E) (tCons (tVar i) tNil)) Γ k := by
  have hnl : ((nearL n ts).map PyData.list).length = n := by rw [List.length_map, nearL_len]
  refine we_lenO h ⟨webF n ts, _, rfl, webF_near, _, rfl, by omega, by rw [hnl]; omega, ?_⟩
  rw [hnl]
  exact hk
theorem we_nbWeb {i : Nat} (h : Γ[i]? = some (some (per (objP a.C_Web (webF n ts))))) (hn : n < 100000) (hv : Valid n ts) (ha : WA tr Γ fun as Γ1 => ∃ w : Int, as = [.q (dP (.int w))] ∧ Γ1[i]? = some (some (per (objP a.C_Web (webF n ts)))) ∧ (0 ≤ w ∧ w < n) ∧ k (own ((nb ts w).map .int)) Γ1) :
    WE (tMeth a.C_Web "neighbours" (sp_Web_neighbours K a) [] E (tVar i) tr) Γ k := by
  refine we_meth h (webF_no (by decide +kernel) (by decide +kernel)) (ha.imp fun as Γ1 ⟨w, e, hi, ⟨h0, h1⟩, hk⟩ => ?_)
  subst e
  refine ⟨hi, rfl, rfl, n, ts, .int w, rfl, hn, hv, fun w' e hw => ?_, fun hb => ?_⟩
  · cases e
    exact hk
  · have : (decide (0 ≤ w) && decide (w < (n : Int))) = false := hb
    rw [decide_eq_true h0, decide_eq_true h1] at this
    cases this
theorem we_tiesWeb {i : Nat} (h : Γ[i]? = some (some (per (objP a.C_Web (webF n ts))))) (hk : k (own (ts.map tieD)) Γ) : WE (tProp a.C_Web (sp_Web_ties K a) [] E (tVar i)) Γ k :=
  we_prop h ⟨_, _, rfl, webF_ties, hk⟩
end
end G

namespace G
open PySem L2
local macro_rules | `(tactic| walk_at "g1") => `(tactic| first
  | (with_reducible show WE _ _ _; with_reducible first | refine we_var (by with_unfolding_all exact rfl) ?_ | (show WE (tOp _ _ _) _ _; first | refine we_ixS (by with_unfolding_all exact rfl) ?_ | refine we_ixScr (by with_unfolding_all exact rfl) ?_ | refine we_inS (by with_unfolding_all exact rfl) ?_ | refine we_notInS (by with_unfolding_all exact rfl) ?_ | refine we_eqS (by with_unfolding_all exact rfl) ?_ | refine we_neS (by with_unfolding_all exact rfl) ?_ | refine we_opK ?_) | (show WE (tCB _ _) _ _; first | refine we_lenS' (by with_unfolding_all exact rfl) ?_ | refine we_lenScr (by with_unfolding_all exact rfl) ?_ | refine we_cbK ?_) | refine we_int ?_ | refine we_bl ?_ | refine we_non ?_ | refine we_str ?_ | refine we_neg ?_ | refine we_not ?_ | refine we_and ?_ | refine we_or ?_ | refine we_if ?_ | refine we_tup ?_ | refine we_lst ?_ | refine we_call ?_ | refine we_mt (by with_unfolding_all exact rfl) ?_)
  | (with_reducible show WS _ _ _ _; with_reducible first | refine ws_seqA ?_ | refine ws_seqD ?_ | refine ws_asg (by with_unfolding_all exact rfl) ?_ | refine ws_asgG ?_ | refine ws_if ?_ | refine ws_ret ?_ | refine ws_drop ?_ | refine ws_next ?_ | refine ws_retN ?_)
  | (with_reducible show WT _ _ _; with_reducible first | refine wt_test ?_ | refine wt_B ?_ | refine wt_not ?_ | refine wt_and ?_ | refine wt_or ?_ | refine wt_yes ?_)
  | (with_reducible show WA _ _ _; with_reducible first | refine wa_nil ?_ | refine wa_cons (wq_of (we_var (by with_unfolding_all exact rfl) ?_)) | refine wa_slotU (by with_unfolding_all exact rfl) ?_ | refine wa_cons ?_)
  | (with_reducible show OpK _ _ _ _ _; with_reducible first | refine ok_plusI ?_ | refine ok_sub ?_ | refine ok_lt ?_ | refine ok_le ?_ | refine ok_gt ?_ | refine ok_ge ?_ | refine ok_eqI ?_ | refine ok_neI ?_ | refine ok_mod (by first | assumption | decide | omega) ?_ | refine ok_ixL (by with_unfolding_all exact rfl) ?_)
  | (with_reducible show CbK _ _ _ _; with_reducible first | refine ck_lenL ?_ | refine ck_lenT ?_ | refine ck_int ?_ | refine ck_intB ?_ | refine ck_max ?_ | refine ck_min ?_ | refine ck_list ?_)
  | with_reducible refine wq_of ?_
  | (with_reducible show WG _ _ _ _ _; with_reducible first | refine wg_name (by with_unfolding_all exact rfl) ?_ | refine wg_tup (by with_unfolding_all exact rfl) ?_ | refine wg_set (by with_unfolding_all exact rfl) ?_)
  | (with_reducible show WGs _ _ _ _ _; with_reducible first | refine wgs_cons ?_ | refine wgs_nil ?_)
  | with_reducible refine iteT ?_
  | with_reducible refine iteF ?_
  | with_reducible refine ⟨_, frz_per, ?_⟩
  | with_reducible refine ⟨_, frz_own, ?_⟩
  | refine ⟨_, rfl, ?_⟩
  | refine ⟨_, argD1, ?_⟩
  | refine ⟨_, argD2, ?_⟩
  | refine ⟨_, argD0, ?_⟩
  | refine ⟨_, argD3, ?_⟩
  | refine ⟨_, argD4, ?_⟩
  | refine ⟨_, _, rfl, rfl, rfl, ?_⟩
  | refine ⟨_, _, _, rfl, rfl, rfl, ?_⟩
  | refine ⟨(by simp only [List.length_cons, List.length_nil]; decide), ?_⟩
  | refine ⟨rfl, nd1, ?_⟩
  | refine ⟨rfl, nd0, ?_⟩)
local macro_rules | `(tactic| walk_at "go") => `(tactic| repeat walk_at "g1")
local macro_rules | `(tactic| walk_at "g2") => `(tactic| first
  | (with_reducible show WE _ _ _; with_reducible first | refine we_var (by with_unfolding_all exact rfl) ?_ | (show WE (tOp _ _ _) _ _; first | refine we_notN ?_ | refine we_ixS (by with_unfolding_all exact rfl) ?_ | refine we_ixScr (by with_unfolding_all exact rfl) ?_ | refine we_inS (by with_unfolding_all exact rfl) ?_ | refine we_notInS (by with_unfolding_all exact rfl) ?_ | refine we_eqS (by with_unfolding_all exact rfl) ?_ | refine we_neS (by with_unfolding_all exact rfl) ?_ | refine we_opK ?_) | (show WE (tCB _ _) _ _; first | refine we_isInt ?_ | refine we_isBl ?_ | refine we_isLst ?_ | refine we_isTup ?_ | refine we_lenO (by with_unfolding_all exact rfl) ?_ | refine we_lenS' (by with_unfolding_all exact rfl) ?_ | refine we_lenScr (by with_unfolding_all exact rfl) ?_ | refine we_cbK ?_) | refine we_chain ?_ | refine we_slice ?_ | refine we_int ?_ | refine we_bl ?_ | refine we_non ?_ | refine we_str ?_ | refine we_neg ?_ | refine we_not ?_ | refine we_and ?_ | refine we_or ?_ | refine we_if ?_ | refine we_tup ?_ | refine we_lst ?_ | refine we_call ?_ | refine we_mt (by with_unfolding_all exact rfl) ?_)
  | (with_reducible show WS _ _ _ _; with_reducible first | refine ws_seqA ?_ | refine ws_seqD ?_ | refine ws_asg (by with_unfolding_all exact rfl) ?_ | refine ws_asgG ?_ | refine ws_if ?_ | refine ws_ret ?_ | refine ws_drop ?_ | refine ws_next ?_ | refine ws_retN ?_)
  | (with_reducible show WT _ _ _; with_reducible first | refine wt_test ?_ | refine wt_B ?_ | refine wt_not ?_ | refine wt_and ?_ | refine wt_or ?_ | refine wt_yes ?_)
  | (with_reducible show WA _ _ _; with_reducible first | refine wa_nil ?_ | refine wa_cons (wq_of (we_var (by with_unfolding_all exact rfl) ?_)) | refine wa_slotU (by with_unfolding_all exact rfl) ?_ | refine wa_cons ?_)
  | (with_reducible show OpK _ _ _ _ _; with_reducible first | refine ok_isB ?_ | refine ok_notB ?_ | refine ok_plusI ?_ | refine ok_sub ?_ | refine ok_lt ?_ | refine ok_le ?_ | refine ok_gt ?_ | refine ok_ge ?_ | refine ok_eqI ?_ | refine ok_neI ?_ | refine ok_mod (by first | assumption | decide | omega) ?_ | refine ok_ixL (by with_unfolding_all exact rfl) ?_)
  | (with_reducible show CbK _ _ _ _; with_reducible first | refine ck_lenL ?_ | refine ck_lenT ?_ | refine ck_int ?_ | refine ck_intB ?_ | refine ck_max ?_ | refine ck_min ?_ | refine ck_list ?_)
  | with_reducible refine wq_of ?_
  | (with_reducible show WG _ _ _ _ _; with_reducible first | refine wg_name (by with_unfolding_all exact rfl) ?_ | refine wg_tup (by with_unfolding_all exact rfl) ?_ | refine wg_set (by with_unfolding_all exact rfl) ?_)
  | (with_reducible show WGs _ _ _ _ _; with_reducible first | refine wgs_cons ?_ | refine wgs_nil ?_)
  | (with_reducible show WO _ _ _; with_reducible first | refine wo_some ?_ | refine wo_none ?_)
  | refine ⟨_, argD5, ?_⟩
  | refine ⟨_, argD6, ?_⟩
  | refine ⟨_, argD7, ?_⟩
  | refine ⟨_, argD9, ?_⟩
  | with_reducible refine iteT ?_
  | with_reducible refine iteF ?_
  | with_reducible refine ⟨_, frz_per, ?_⟩
  | with_reducible refine ⟨_, frz_own, ?_⟩
  | refine ⟨_, rfl, ?_⟩
  | refine ⟨_, argD1, ?_⟩
  | refine ⟨_, argD2, ?_⟩
  | refine ⟨_, argD0, ?_⟩
  | refine ⟨_, argD3, ?_⟩
  | refine ⟨_, argD4, ?_⟩
  | refine ⟨_, _, rfl, rfl, rfl, ?_⟩
  | refine ⟨_, _, _, rfl, rfl, rfl, ?_⟩
  | refine ⟨(by simp only [List.length_cons, List.length_nil]; decide), ?_⟩
  | refine ⟨rfl, nd1, ?_⟩
  | refine ⟨rfl, nd0, ?_⟩)
local macro_rules | `(tactic| walk_at "w") => `(tactic| first
  | (with_reducible show WE _ _ _; with_reducible first | refine we_var (by with_unfolding_all exact rfl) ?_ | refine we_varF (by with_unfolding_all exact rfl) frz_own ?_ | (show WE (tOp _ _ _) _ _; first | refine we_isNd ?_ | refine we_notNd ?_ | refine we_notN ?_ | refine we_ixS (by with_unfolding_all exact rfl) ?_ | refine we_ixScr (by with_unfolding_all exact rfl) ?_ | refine we_inS (by with_unfolding_all exact rfl) ?_ | refine we_notInS (by with_unfolding_all exact rfl) ?_ | refine we_eqS (by with_unfolding_all exact rfl) ?_ | refine we_neS (by with_unfolding_all exact rfl) ?_ | refine we_opK ?_) | (show WE (tCB _ _) _ _; first | refine we_repr ?_ | refine we_isInt ?_ | refine we_isBl ?_ | refine we_isLst ?_ | refine we_isTup ?_ | refine we_lenO (by with_unfolding_all exact rfl) ?_ | refine we_lenS' (by with_unfolding_all exact rfl) ?_ | refine we_lenScr (by with_unfolding_all exact rfl) ?_ | refine we_cbK ?_) | refine we_dnew ?_ | refine we_lenSetI ?_ | refine we_revL ?_ | refine we_chain ?_ | refine we_slice ?_ | refine we_int ?_ | refine we_bl ?_ | refine we_non ?_ | refine we_str ?_ | refine we_neg ?_ | refine we_not ?_ | refine we_and ?_ | refine we_or ?_ | refine we_if ?_ | refine we_tup ?_ | refine we_lst ?_ | refine we_call ?_ | refine we_mt (by with_unfolding_all exact rfl) ?_)
  | (with_reducible show WS _ _ _ _; with_reducible first | refine ws_seqI ?_ | refine ws_seqA ?_ | refine ws_seqD ?_ | refine ws_asg (by with_unfolding_all exact rfl) ?_ | refine ws_asgG ?_ | refine ws_if ?_ | refine ws_ret ?_ | refine ws_drop ?_ | refine ws_next ?_ | refine ws_retN ?_)
  | (with_reducible show WT _ _ _; with_reducible first | refine wt_truL ?_ | refine wt_test ?_ | refine wt_B ?_ | refine wt_not ?_ | refine wt_and ?_ | refine wt_or ?_ | refine wt_yes ?_)
  | (with_reducible show WA _ _ _; with_reducible first | refine wa_nil ?_ | refine wa_cons (wq_of (we_var (by with_unfolding_all exact rfl) ?_)) | refine wa_slotU (by with_unfolding_all exact rfl) ?_ | refine wa_cons ?_)
  | (with_reducible show OpK _ _ _ _ _; with_reducible first | refine ok_neR ?_ | refine ok_eqR ?_ | refine ok_isB ?_ | refine ok_notB ?_ | refine ok_plusI ?_ | refine ok_sub ?_ | refine ok_lt ?_ | refine ok_le ?_ | refine ok_gt ?_ | refine ok_ge ?_ | refine ok_eqI ?_ | refine ok_neI ?_ | refine ok_mod (by first | assumption | decide | omega) ?_ | refine ok_ixL (by with_unfolding_all exact rfl) ?_)
  | (with_reducible show CbK _ _ _ _; with_reducible first | refine ck_tuple ?_ | refine ck_allF ?_ | refine ck_anyF ?_ | refine ck_abs ?_ | refine ck_sumI ?_ | refine ck_lenL ?_ | refine ck_lenT ?_ | refine ck_int ?_ | refine ck_intB ?_ | refine ck_max ?_ | refine ck_min ?_ | refine ck_list ?_)
  | with_reducible refine wq_of ?_
  | (with_reducible show WG _ _ _ _ _; with_reducible first | refine wg_name (by with_unfolding_all exact rfl) ?_ | refine wg_tup (by with_unfolding_all exact rfl) ?_ | refine wg_set (by with_unfolding_all exact rfl) ?_)
  | (with_reducible show WGs _ _ _ _ _; with_reducible first | refine wgs_cons ?_ | refine wgs_nil ?_)
  | (with_reducible show WO _ _ _; with_reducible first | refine wo_some ?_ | refine wo_none ?_)
  | refine ⟨_, argD5, ?_⟩
  | refine ⟨_, argD6, ?_⟩
  | refine ⟨_, argD7, ?_⟩
  | refine ⟨_, argD9, ?_⟩
  | with_reducible refine iteT ?_
  | with_reducible refine iteF ?_
  | with_reducible refine ⟨_, frz_per, ?_⟩
  | with_reducible refine ⟨_, frz_own, ?_⟩
  | refine ⟨_, rfl, ?_⟩
  | refine ⟨_, argD1, ?_⟩
  | refine ⟨_, argD2, ?_⟩
  | refine ⟨_, argD0, ?_⟩
  | refine ⟨_, argD3, ?_⟩
  | refine ⟨_, argD4, ?_⟩
  | refine ⟨_, _, rfl, rfl, rfl, ?_⟩
  | refine ⟨_, _, _, rfl, rfl, rfl, ?_⟩
  | refine ⟨(by simp only [List.length_cons, List.length_nil]; decide), ?_⟩
  | refine ⟨rfl, nd1, ?_⟩
  | refine ⟨rfl, nd0, ?_⟩
  | refine ⟨_, argD8, ?_⟩
  | refine ⟨_, argD10, ?_⟩)
local macro_rules | `(tactic| walk_at "v") => `(tactic| first
  | (with_reducible show WE _ _ _; with_reducible first | refine we_var (by with_unfolding_all exact rfl) ?_ | refine we_varF (by with_unfolding_all exact rfl) frz_own ?_ | (show WE (tOp _ _ _) _ _; first | refine we_isNd ?_ | refine we_notNd ?_ | refine we_notN ?_ | refine we_ixS (by with_unfolding_all exact rfl) ?_ | refine we_ixScr (by with_unfolding_all exact rfl) ?_ | refine we_inS (by with_unfolding_all exact rfl) ?_ | refine we_notInS (by with_unfolding_all exact rfl) ?_ | refine we_eqS (by with_unfolding_all exact rfl) ?_ | refine we_neS (by with_unfolding_all exact rfl) ?_ | refine we_opK ?_) | (show WE (tCB _ _) _ _; first | refine we_repr ?_ | refine we_lenWeb (by with_unfolding_all exact rfl) (by assumption) ?_ | refine we_isInt ?_ | refine we_isBl ?_ | refine we_isLst ?_ | refine we_isTup ?_ | refine we_lenO (by with_unfolding_all exact rfl) ?_ | refine we_lenS' (by with_unfolding_all exact rfl) ?_ | refine we_lenScr (by with_unfolding_all exact rfl) ?_ | refine we_cbK ?_) | refine we_dnew ?_ | refine we_lenSetI ?_ | refine we_revL ?_ | refine we_nbWeb (by with_unfolding_all exact rfl) (by assumption) (by assumption) ?_ | refine we_tiesWeb (by with_unfolding_all exact rfl) ?_ | refine we_chain ?_ | refine we_slice ?_ | refine we_int ?_ | refine we_bl ?_ | refine we_non ?_ | refine we_str ?_ | refine we_neg ?_ | refine we_not ?_ | refine we_and ?_ | refine we_or ?_ | refine we_if ?_ | refine we_tup ?_ | refine we_lst ?_ | refine we_call ?_ | refine we_mt (by with_unfolding_all exact rfl) ?_)
  | (with_reducible show WS _ _ _ _; with_reducible first | refine ws_seqI ?_ | refine ws_seqA ?_ | refine ws_seqD ?_ | refine ws_asg (by with_unfolding_all exact rfl) ?_ | refine ws_asgG ?_ | refine ws_if ?_ | refine ws_ret ?_ | refine ws_drop ?_ | refine ws_next ?_ | refine ws_retN ?_)
  | (with_reducible show WT _ _ _; with_reducible first | refine wt_truL ?_ | refine wt_test ?_ | refine wt_B ?_ | refine wt_not ?_ | refine wt_and ?_ | refine wt_or ?_ | refine wt_yes ?_)
  | (with_reducible show WA _ _ _; with_reducible first | refine wa_nil ?_ | refine wa_cons (wq_of (we_var (by with_unfolding_all exact rfl) ?_)) | refine wa_slotU (by with_unfolding_all exact rfl) ?_ | refine wa_cons ?_)
  | (with_reducible show OpK _ _ _ _ _; with_reducible first | refine ok_neR ?_ | refine ok_eqR ?_ | refine ok_isB ?_ | refine ok_notB ?_ | refine ok_plusI ?_ | refine ok_sub ?_ | refine ok_lt ?_ | refine ok_le ?_ | refine ok_gt ?_ | refine ok_ge ?_ | refine ok_eqI ?_ | refine ok_neI ?_ | refine ok_mod (by first | assumption | decide | omega) ?_ | refine ok_ixL (by with_unfolding_all exact rfl) ?_)
  | (with_reducible show CbK _ _ _ _; with_reducible first | refine ck_tuple ?_ | refine ck_allF ?_ | refine ck_anyF ?_ | refine ck_abs ?_ | refine ck_sumI ?_ | refine ck_lenL ?_ | refine ck_lenT ?_ | refine ck_int ?_ | refine ck_intB ?_ | refine ck_max ?_ | refine ck_min ?_ | refine ck_list ?_)
  | with_reducible refine wq_of ?_
  | (with_reducible show WG _ _ _ _ _; with_reducible first | refine wg_name (by with_unfolding_all exact rfl) ?_ | refine wg_tup (by with_unfolding_all exact rfl) ?_ | refine wg_set (by with_unfolding_all exact rfl) ?_)
  | (with_reducible show WGs _ _ _ _ _; with_reducible first | refine wgs_cons ?_ | refine wgs_nil ?_)
  | (with_reducible show WO _ _ _; with_reducible first | refine wo_some ?_ | refine wo_none ?_)
  | refine ⟨_, argD5, ?_⟩
  | refine ⟨_, argD6, ?_⟩
  | refine ⟨_, argD7, ?_⟩
  | refine ⟨_, argD9, ?_⟩
  | with_reducible refine iteT ?_
  | with_reducible refine iteF ?_
  | with_reducible refine ⟨_, frz_per, ?_⟩
  | with_reducible refine ⟨_, frz_own, ?_⟩
  | refine ⟨_, rfl, ?_⟩
  | refine ⟨_, argD1, ?_⟩
  | refine ⟨_, argD2, ?_⟩
  | refine ⟨_, argD0, ?_⟩
  | refine ⟨_, argD3, ?_⟩
  | refine ⟨_, argD4, ?_⟩
  | refine ⟨_, _, rfl, rfl, rfl, ?_⟩
  | refine ⟨_, _, _, rfl, rfl, rfl, ?_⟩
  | refine ⟨(by simp only [List.length_cons, List.length_nil]; decide), ?_⟩
  | refine ⟨rfl, nd1, ?_⟩
  | refine ⟨rfl, nd0, ?_⟩
  | refine ⟨_, argD8, ?_⟩
  | refine ⟨_, argD10, ?_⟩)
local macro_rules | `(tactic| walk_at "p") => `(tactic| refine ⟨_, _, rfl, (by omega), (by first | decide | omega), (by first | decide | omega), ?_⟩)
local macro_rules | `(tactic| walk_at "n") => `(tactic| try dsimp only [back, List.set_cons_zero, List.set_cons_succ, List.map_cons, List.map_nil, List.cons_append, List.nil_append])
local macro_rules | `(tactic| walk_at "q") => `(tactic| first | with_reducible refine ws_seqP (ws_par (by with_unfolding_all exact rfl) (by with_unfolding_all exact rfl) ?_) | refine ⟨_, _, rfl, ?_⟩ | walk_at "v")
section
variable {K : PySem.W.Frag} {a : Ad} {Γ : Ga} {k : Gp → Ga → Prop} {tr : TA} {E : XK}
end
/-- data told apart: the lists are the same -/
theorem EncOk.inj {α : Type} [DecidableEq α] {n : Nat} {enc : α → PyData} (h : EncOk n enc) {x y : α} (e : enc x = enc y) : x = y := by
  have h1 := h.eqv x y
  rw [e, h.eqv y y, decide_eq_true rfl] at h1
  exact of_decide_eq_true h1.symm
end G

namespace G
open PySem L2
local macro_rules | `(tactic| walk_at "g1") => `(tactic| first
  | (with_reducible show WE _ _ _; with_reducible first | refine we_var (by with_unfolding_all exact rfl) ?_ | (show WE (tOp _ _ _) _ _; first | refine we_ixS (by with_unfolding_all exact rfl) ?_ | refine we_ixScr (by with_unfolding_all exact rfl) ?_ | refine we_inS (by with_unfolding_all exact rfl) ?_ | refine we_notInS (by with_unfolding_all exact rfl) ?_ | refine we_eqS (by with_unfolding_all exact rfl) ?_ | refine we_neS (by with_unfolding_all exact rfl) ?_ | refine we_opK ?_) | (show WE (tCB _ _) _ _; first | refine we_lenS' (by with_unfolding_all exact rfl) ?_ | refine we_lenScr (by with_unfolding_all exact rfl) ?_ | refine we_cbK ?_) | refine we_int ?_ | refine we_bl ?_ | refine we_non ?_ | refine we_str ?_ | refine we_neg ?_ | refine we_not ?_ | refine we_and ?_ | refine we_or ?_ | refine we_if ?_ | refine we_tup ?_ | refine we_lst ?_ | refine we_call ?_ | refine we_mt (by with_unfolding_all exact rfl) ?_)
  | (with_reducible show WS _ _ _ _; with_reducible first | refine ws_seqA ?_ | refine ws_seqD ?_ | refine ws_asg (by with_unfolding_all exact rfl) ?_ | refine ws_asgG ?_ | refine ws_if ?_ | refine ws_ret ?_ | refine ws_drop ?_ | refine ws_next ?_ | refine ws_retN ?_)
  | (with_reducible show WT _ _ _; with_reducible first | refine wt_test ?_ | refine wt_B ?_ | refine wt_not ?_ | refine wt_and ?_ | refine wt_or ?_ | refine wt_yes ?_)
  | (with_reducible show WA _ _ _; with_reducible first | refine wa_nil ?_ | refine wa_cons (wq_of (we_var (by with_unfolding_all exact rfl) ?_)) | refine wa_slotU (by with_unfolding_all exact rfl) ?_ | refine wa_cons ?_)
  | (with_reducible show OpK _ _ _ _ _; with_reducible first | refine ok_plusI ?_ | refine ok_sub ?_ | refine ok_lt ?_ | refine ok_le ?_ | refine ok_gt ?_ | refine ok_ge ?_ | refine ok_eqI ?_ | refine ok_neI ?_ | refine ok_mod (by first | assumption | decide | omega) ?_ | refine ok_ixL (by with_unfolding_all exact rfl) ?_)
  | (with_reducible show CbK _ _ _ _; with_reducible first | refine ck_lenL ?_ | refine ck_lenT ?_ | refine ck_int ?_ | refine ck_intB ?_ | refine ck_max ?_ | refine ck_min ?_ | refine ck_list ?_)
  | with_reducible refine wq_of ?_
  | (with_reducible show WG _ _ _ _ _; with_reducible first | refine wg_name (by with_unfolding_all exact rfl) ?_ | refine wg_tup (by with_unfolding_all exact rfl) ?_ | refine wg_set (by with_unfolding_all exact rfl) ?_)
  | (with_reducible show WGs _ _ _ _ _; with_reducible first | refine wgs_cons ?_ | refine wgs_nil ?_)
  | with_reducible refine iteT ?_
  | with_reducible refine iteF ?_
  | with_reducible refine ⟨_, frz_per, ?_⟩
  | with_reducible refine ⟨_, frz_own, ?_⟩
  | refine ⟨_, rfl, ?_⟩
  | refine ⟨_, argD1, ?_⟩
  | refine ⟨_, argD2, ?_⟩
  | refine ⟨_, argD0, ?_⟩
  | refine ⟨_, argD3, ?_⟩
  | refine ⟨_, argD4, ?_⟩
  | refine ⟨_, _, rfl, rfl, rfl, ?_⟩
  | refine ⟨_, _, _, rfl, rfl, rfl, ?_⟩
  | refine ⟨(by simp only [List.length_cons, List.length_nil]; decide), ?_⟩
  | refine ⟨rfl, nd1, ?_⟩
  | refine ⟨rfl, nd0, ?_⟩)
local macro_rules | `(tactic| walk_at "go") => `(tactic| repeat walk_at "g1")
local macro_rules | `(tactic| walk_at "g2") => `(tactic| first
  | (with_reducible show WE _ _ _; with_reducible first | refine we_var (by with_unfolding_all exact rfl) ?_ | (show WE (tOp _ _ _) _ _; first | refine we_notN ?_ | refine we_ixS (by with_unfolding_all exact rfl) ?_ | refine we_ixScr (by with_unfolding_all exact rfl) ?_ | refine we_inS (by with_unfolding_all exact rfl) ?_ | refine we_notInS (by with_unfolding_all exact rfl) ?_ | refine we_eqS (by with_unfolding_all exact rfl) ?_ | refine we_neS (by with_unfolding_all exact rfl) ?_ | refine we_opK ?_) | (show WE (tCB _ _) _ _; first | refine we_isInt ?_ | refine we_isBl ?_ | refine we_isLst ?_ | refine we_isTup ?_ | refine we_lenO (by with_unfolding_all exact rfl) ?_ | refine we_lenS' (by with_unfolding_all exact rfl) ?_ | refine we_lenScr (by with_unfolding_all exact rfl) ?_ | refine we_cbK ?_) | refine we_chain ?_ | refine we_slice ?_ | refine we_int ?_ | refine we_bl ?_ | refine we_non ?_ | refine we_str ?_ | refine we_neg ?_ | refine we_not ?_ | refine we_and ?_ | refine we_or ?_ | refine we_if ?_ | refine we_tup ?_ | refine we_lst ?_ | refine we_call ?_ | refine we_mt (by with_unfolding_all exact rfl) ?_)
  | (with_reducible show WS _ _ _ _; with_reducible first | refine ws_seqA ?_ | refine ws_seqD ?_ | refine ws_asg (by with_unfolding_all exact rfl) ?_ | refine ws_asgG ?_ | refine ws_if ?_ | refine ws_ret ?_ | refine ws_drop ?_ | refine ws_next ?_ | refine ws_retN ?_)
  | (with_reducible show WT _ _ _; with_reducible first | refine wt_test ?_ | refine wt_B ?_ | refine wt_not ?_ | refine wt_and ?_ | refine wt_or ?_ | refine wt_yes ?_)
  | (with_reducible show WA _ _ _; with_reducible first | refine wa_nil ?_ | refine wa_cons (wq_of (we_var (by with_unfolding_all exact rfl) ?_)) | refine wa_slotU (by with_unfolding_all exact rfl) ?_ | refine wa_cons ?_)
  | (with_reducible show OpK _ _ _ _ _; with_reducible first | refine ok_isB ?_ | refine ok_notB ?_ | refine ok_plusI ?_ | refine ok_sub ?_ | refine ok_lt ?_ | refine ok_le ?_ | refine ok_gt ?_ | refine ok_ge ?_ | refine ok_eqI ?_ | refine ok_neI ?_ | refine ok_mod (by first | assumption | decide | omega) ?_ | refine ok_ixL (by with_unfolding_all exact rfl) ?_)
  | (with_reducible show CbK _ _ _ _; with_reducible first | refine ck_lenL ?_ | refine ck_lenT ?_ | refine ck_int ?_ | refine ck_intB ?_ | refine ck_max ?_ | refine ck_min ?_ | refine ck_list ?_)
  | with_reducible refine wq_of ?_
  | (with_reducible show WG _ _ _ _ _; with_reducible first | refine wg_name (by with_unfolding_all exact rfl) ?_ | refine wg_tup (by with_unfolding_all exact rfl) ?_ | refine wg_set (by with_unfolding_all exact rfl) ?_)
  | (with_reducible show WGs _ _ _ _ _; with_reducible first | refine wgs_cons ?_ | refine wgs_nil ?_)
  | (with_reducible show WO _ _ _; with_reducible first | refine wo_some ?_ | refine wo_none ?_)
  | refine ⟨_, argD5, ?_⟩
  | refine ⟨_, argD6, ?_⟩
  | refine ⟨_, argD7, ?_⟩
  | refine ⟨_, argD9, ?_⟩
  | with_reducible refine iteT ?_
  | with_reducible refine iteF ?_
  | with_reducible refine ⟨_, frz_per, ?_⟩
  | with_reducible refine ⟨_, frz_own, ?_⟩
  | refine ⟨_, rfl, ?_⟩
  | refine ⟨_, argD1, ?_⟩
  | refine ⟨_, argD2, ?_⟩
  | refine ⟨_, argD0, ?_⟩
  | refine ⟨_, argD3, ?_⟩
  | refine ⟨_, argD4, ?_⟩
  | refine ⟨_, _, rfl, rfl, rfl, ?_⟩
  | refine ⟨_, _, _, rfl, rfl, rfl, ?_⟩
  | refine ⟨(by simp only [List.length_cons, List.length_nil]; decide), ?_⟩
  | refine ⟨rfl, nd1, ?_⟩
  | refine ⟨rfl, nd0, ?_⟩)
local macro_rules | `(tactic| walk_at "w") => `(tactic| first
  | (with_reducible show WE _ _ _; with_reducible first | refine we_var (by with_unfolding_all exact rfl) ?_ | refine we_varF (by with_unfolding_all exact rfl) frz_own ?_ | (show WE (tOp _ _ _) _ _; first | refine we_isNd ?_ | refine we_notNd ?_ | refine we_notN ?_ | refine we_ixS (by with_unfolding_all exact rfl) ?_ | refine we_ixScr (by with_unfolding_all exact rfl) ?_ | refine we_inS (by with_unfolding_all exact rfl) ?_ | refine we_notInS (by with_unfolding_all exact rfl) ?_ | refine we_eqS (by with_unfolding_all exact rfl) ?_ | refine we_neS (by with_unfolding_all exact rfl) ?_ | refine we_opK ?_) | (show WE (tCB _ _) _ _; first | refine we_repr ?_ | refine we_isInt ?_ | refine we_isBl ?_ | refine we_isLst ?_ | refine we_isTup ?_ | refine we_lenO (by with_unfolding_all exact rfl) ?_ | refine we_lenS' (by with_unfolding_all exact rfl) ?_ | refine we_lenScr (by with_unfolding_all exact rfl) ?_ | refine we_cbK ?_) | refine we_dnew ?_ | refine we_lenSetI ?_ | refine we_revL ?_ | refine we_chain ?_ | refine we_slice ?_ | refine we_int ?_ | refine we_bl ?_ | refine we_non ?_ | refine we_str ?_ | refine we_neg ?_ | refine we_not ?_ | refine we_and ?_ | refine we_or ?_ | refine we_if ?_ | refine we_tup ?_ | refine we_lst ?_ | refine we_call ?_ | refine we_mt (by with_unfolding_all exact rfl) ?_)
  | (with_reducible show WS _ _ _ _; with_reducible first | refine ws_seqI ?_ | refine ws_seqA ?_ | refine ws_seqD ?_ | refine ws_asg (by with_unfolding_all exact rfl) ?_ | refine ws_asgG ?_ | refine ws_if ?_ | refine ws_ret ?_ | refine ws_drop ?_ | refine ws_next ?_ | refine ws_retN ?_)
  | (with_reducible show WT _ _ _; with_reducible first | refine wt_truL ?_ | refine wt_test ?_ | refine wt_B ?_ | refine wt_not ?_ | refine wt_and ?_ | refine wt_or ?_ | refine wt_yes ?_)
  | (with_reducible show WA _ _ _; with_reducible first | refine wa_nil ?_ | refine wa_cons (wq_of (we_var (by with_unfolding_all exact rfl) ?_)) | refine wa_slotU (by with_unfolding_all exact rfl) ?_ | refine wa_cons ?_)
  | (with_reducible show OpK _ _ _ _ _; with_reducible first | refine ok_neR ?_ | refine ok_eqR ?_ | refine ok_isB ?_ | refine ok_notB ?_ | refine ok_plusI ?_ | refine ok_sub ?_ | refine ok_lt ?_ | refine ok_le ?_ | refine ok_gt ?_ | refine ok_ge ?_ | refine ok_eqI ?_ | refine ok_neI ?_ | refine ok_mod (by first | assumption | decide | omega) ?_ | refine ok_ixL (by with_unfolding_all exact rfl) ?_)
  | (with_reducible show CbK _ _ _ _; with_reducible first | refine ck_tuple ?_ | refine ck_allF ?_ | refine ck_anyF ?_ | refine ck_abs ?_ | refine ck_sumI ?_ | refine ck_lenL ?_ | refine ck_lenT ?_ | refine ck_int ?_ | refine ck_intB ?_ | refine ck_max ?_ | refine ck_min ?_ | refine ck_list ?_)
  | with_reducible refine wq_of ?_
  | (with_reducible show WG _ _ _ _ _; with_reducible first | refine wg_name (by with_unfolding_all exact rfl) ?_ | refine wg_tup (by with_unfolding_all exact rfl) ?_ | refine wg_set (by with_unfolding_all exact rfl) ?_)
  | (with_reducible show WGs _ _ _ _ _; with_reducible first | refine wgs_cons ?_ | refine wgs_nil ?_)
  | (with_reducible show WO _ _ _; with_reducible first | refine wo_some ?_ | refine wo_none ?_)
  | refine ⟨_, argD5, ?_⟩
  | refine ⟨_, argD6, ?_⟩
  | refine ⟨_, argD7, ?_⟩
  | refine ⟨_, argD9, ?_⟩
  | with_reducible refine iteT ?_
  | with_reducible refine iteF ?_
  | with_reducible refine ⟨_, frz_per, ?_⟩
  | with_reducible refine ⟨_, frz_own, ?_⟩
  | refine ⟨_, rfl, ?_⟩
  | refine ⟨_, argD1, ?_⟩
  | refine ⟨_, argD2, ?_⟩
  | refine ⟨_, argD0, ?_⟩
  | refine ⟨_, argD3, ?_⟩
  | refine ⟨_, argD4, ?_⟩
  | refine ⟨_, _, rfl, rfl, rfl, ?_⟩
  | refine ⟨_, _, _, rfl, rfl, rfl, ?_⟩
  | refine ⟨(by simp only [List.length_cons, List.length_nil]; decide), ?_⟩
  | refine ⟨rfl, nd1, ?_⟩
  | refine ⟨rfl, nd0, ?_⟩
  | refine ⟨_, argD8, ?_⟩
  | refine ⟨_, argD10, ?_⟩)
local macro_rules | `(tactic| walk_at "v") => `(tactic| first
  | (with_reducible show WE _ _ _; with_reducible first | refine we_var (by with_unfolding_all exact rfl) ?_ | refine we_varF (by with_unfolding_all exact rfl) frz_own ?_ | (show WE (tOp _ _ _) _ _; first | refine we_isNd ?_ | refine we_notNd ?_ | refine we_notN ?_ | refine we_ixS (by with_unfolding_all exact rfl) ?_ | refine we_ixScr (by with_unfolding_all exact rfl) ?_ | refine we_inS (by with_unfolding_all exact rfl) ?_ | refine we_notInS (by with_unfolding_all exact rfl) ?_ | refine we_eqS (by with_unfolding_all exact rfl) ?_ | refine we_neS (by with_unfolding_all exact rfl) ?_ | refine we_opK ?_) | (show WE (tCB _ _) _ _; first | refine we_repr ?_ | refine we_lenWeb (by with_unfolding_all exact rfl) (by assumption) ?_ | refine we_isInt ?_ | refine we_isBl ?_ | refine we_isLst ?_ | refine we_isTup ?_ | refine we_lenO (by with_unfolding_all exact rfl) ?_ | refine we_lenS' (by with_unfolding_all exact rfl) ?_ | refine we_lenScr (by with_unfolding_all exact rfl) ?_ | refine we_cbK ?_) | refine we_dnew ?_ | refine we_lenSetI ?_ | refine we_revL ?_ | refine we_nbWeb (by with_unfolding_all exact rfl) (by assumption) (by assumption) ?_ | refine we_tiesWeb (by with_unfolding_all exact rfl) ?_ | refine we_chain ?_ | refine we_slice ?_ | refine we_int ?_ | refine we_bl ?_ | refine we_non ?_ | refine we_str ?_ | refine we_neg ?_ | refine we_not ?_ | refine we_and ?_ | refine we_or ?_ | refine we_if ?_ | refine we_tup ?_ | refine we_lst ?_ | refine we_call ?_ | refine we_mt (by with_unfolding_all exact rfl) ?_)
  | (with_reducible show WS _ _ _ _; with_reducible first | refine ws_seqI ?_ | refine ws_seqA ?_ | refine ws_seqD ?_ | refine ws_asg (by with_unfolding_all exact rfl) ?_ | refine ws_asgG ?_ | refine ws_if ?_ | refine ws_ret ?_ | refine ws_drop ?_ | refine ws_next ?_ | refine ws_retN ?_)
  | (with_reducible show WT _ _ _; with_reducible first | refine wt_truL ?_ | refine wt_test ?_ | refine wt_B ?_ | refine wt_not ?_ | refine wt_and ?_ | refine wt_or ?_ | refine wt_yes ?_)
  | (with_reducible show WA _ _ _; with_reducible first | refine wa_nil ?_ | refine wa_cons (wq_of (we_var (by with_unfolding_all exact rfl) ?_)) | refine wa_slotU (by with_unfolding_all exact rfl) ?_ | refine wa_cons ?_)
  | (with_reducible show OpK _ _ _ _ _; with_reducible first | refine ok_neR ?_ | refine ok_eqR ?_ | refine ok_isB ?_ | refine ok_notB ?_ | refine ok_plusI ?_ | refine ok_sub ?_ | refine ok_lt ?_ | refine ok_le ?_ | refine ok_gt ?_ | refine ok_ge ?_ | refine ok_eqI ?_ | refine ok_neI ?_ | refine ok_mod (by first | assumption | decide | omega) ?_ | refine ok_ixL (by with_unfolding_all exact rfl) ?_)
  | (with_reducible show CbK _ _ _ _; with_reducible first | refine ck_tuple ?_ | refine ck_allF ?_ | refine ck_anyF ?_ | refine ck_abs ?_ | refine ck_sumI ?_ | refine ck_lenL ?_ | refine ck_lenT ?_ | refine ck_int ?_ | refine ck_intB ?_ | refine ck_max ?_ | refine ck_min ?_ | refine ck_list ?_)
  | with_reducible refine wq_of ?_
  | (with_reducible show WG _ _ _ _ _; with_reducible first | refine wg_name (by with_unfolding_all exact rfl) ?_ | refine wg_tup (by with_unfolding_all exact rfl) ?_ | refine wg_set (by with_unfolding_all exact rfl) ?_)
  | (with_reducible show WGs _ _ _ _ _; with_reducible first | refine wgs_cons ?_ | refine wgs_nil ?_)
  | (with_reducible show WO _ _ _; with_reducible first | refine wo_some ?_ | refine wo_none ?_)
  | refine ⟨_, argD5, ?_⟩
  | refine ⟨_, argD6, ?_⟩
  | refine ⟨_, argD7, ?_⟩
  | refine ⟨_, argD9, ?_⟩
  | with_reducible refine iteT ?_
  | with_reducible refine iteF ?_
  | with_reducible refine ⟨_, frz_per, ?_⟩
  | with_reducible refine ⟨_, frz_own, ?_⟩
  | refine ⟨_, rfl, ?_⟩
  | refine ⟨_, argD1, ?_⟩
  | refine ⟨_, argD2, ?_⟩
  | refine ⟨_, argD0, ?_⟩
  | refine ⟨_, argD3, ?_⟩
  | refine ⟨_, argD4, ?_⟩
  | refine ⟨_, _, rfl, rfl, rfl, ?_⟩
  | refine ⟨_, _, _, rfl, rfl, rfl, ?_⟩
  | refine ⟨(by simp only [List.length_cons, List.length_nil]; decide), ?_⟩
  | refine ⟨rfl, nd1, ?_⟩
  | refine ⟨rfl, nd0, ?_⟩
  | refine ⟨_, argD8, ?_⟩
  | refine ⟨_, argD10, ?_⟩)
local macro_rules | `(tactic| walk_at "p") => `(tactic| refine ⟨_, _, rfl, (by omega), (by first | decide | omega), (by first | decide | omega), ?_⟩)
local macro_rules | `(tactic| walk_at "n") => `(tactic| try dsimp only [back, List.set_cons_zero, List.set_cons_succ, List.map_cons, List.map_nil, List.cons_append, List.nil_append])
local macro_rules | `(tactic| walk_at "q") => `(tactic| first | with_reducible refine ws_seqP (ws_par (by with_unfolding_all exact rfl) (by with_unfolding_all exact rfl) ?_) | refine ⟨_, _, rfl, ?_⟩ | walk_at "v")
local macro_rules | `(tactic| walk_at "j") => `(tactic| first
  | (with_reducible show WA _ _ _; with_reducible refine wa_slotJ (by with_unfolding_all exact rfl) ?_)
  | walk_at "v")
namespace J
def t_law_whole (K : PySem.W.Frag) : TS :=
  (tRet (tAndV (tCB (rIsiA K) (tCons (tVar 0) (tCons (tC (.ty "int")) tNil))) (tNotV (tCB (rIsiA K) (tCons (tVar 0) (tCons (tC (.ty "bool")) tNil))))))
abbrev N_law_whole : List Str := ["found"]
abbrev F_law_whole : Fw := fun gs kk _ => ∃ d, gs = [dat d] ∧ kk (dat (.bool (wholeD d))) [none]
abbrev sp_law_whole (K : PySem.W.Frag) : Sp := SpG 1 F_law_whole
theorem pure_law_whole {K : PySem.W.Frag} {vs : List V} {H : Hp} {Q : VK} {E : XK} (h : sp_law_whole K vs H Q E) : t_law_whole K { nx := fun _ H' => Q .non H', rt := Q } (L2.start N_law_whole vs) H := by
  refine body_ok (fun _ => false) ?_ h
  rintro gs kk xx ⟨d, rfl, hk⟩ -
  unfold t_law_whole
  repeat walk_at "v"
  have out : ∀ {b : Bool}, wholeD d = b → ∃ g' Γp, Ent (dat (.bool b)) g' ∧ Les (mask (fun _ => false) 1 (List.map some [dat d] ++ List.replicate (N_law_whole.length - 1) none)) Γp ∧ kk g' Γp := fun {b} e => ⟨_, [none], Ent.refl, les_none les_nil, e ▸ hk⟩
  refine ite_b (fun e => ?_) fun e => out (by cases d <;> first | rfl | exact Bool.noConfusion e)
  repeat walk_at "v"
  cases d <;> first | exact Bool.noConfusion e | exact out rfl
end J
end G

namespace G
open PySem L2
local macro_rules | `(tactic| walk_at "g1") => `(tactic| first
  | (with_reducible show WE _ _ _; with_reducible first | refine we_var (by with_unfolding_all exact rfl) ?_ | (show WE (tOp _ _ _) _ _; first | refine we_ixS (by with_unfolding_all exact rfl) ?_ | refine we_ixScr (by with_unfolding_all exact rfl) ?_ | refine we_inS (by with_unfolding_all exact rfl) ?_ | refine we_notInS (by with_unfolding_all exact rfl) ?_ | refine we_eqS (by with_unfolding_all exact rfl) ?_ | refine we_neS (by with_unfolding_all exact rfl) ?_ | refine we_opK ?_) | (show WE (tCB _ _) _ _; first | refine we_lenS' (by with_unfolding_all exact rfl) ?_ | refine we_lenScr (by with_unfolding_all exact rfl) ?_ | refine we_cbK ?_) | refine we_int ?_ | refine we_bl ?_ | refine we_non ?_ | refine we_str ?_ | refine we_neg ?_ | refine we_not ?_ | refine we_and ?_ | refine we_or ?_ | refine we_if ?_ | refine we_tup ?_ | refine we_lst ?_ | refine we_call ?_ | refine we_mt (by with_unfolding_all exact rfl) ?_)
  | (with_reducible show WS _ _ _ _; with_reducible first | refine ws_seqA ?_ | refine ws_seqD ?_ | refine ws_asg (by with_unfolding_all exact rfl) ?_ | refine ws_asgG ?_ | refine ws_if ?_ | refine ws_ret ?_ | refine ws_drop ?_ | refine ws_next ?_ | refine ws_retN ?_)
  | (with_reducible show WT _ _ _; with_reducible first | refine wt_test ?_ | refine wt_B ?_ | refine wt_not ?_ | refine wt_and ?_ | refine wt_or ?_ | refine wt_yes ?_)
  | (with_reducible show WA _ _ _; with_reducible first | refine wa_nil ?_ | refine wa_cons (wq_of (we_var (by with_unfolding_all exact rfl) ?_)) | refine wa_slotU (by with_unfolding_all exact rfl) ?_ | refine wa_cons ?_)
  | (with_reducible show OpK _ _ _ _ _; with_reducible first | refine ok_plusI ?_ | refine ok_sub ?_ | refine ok_lt ?_ | refine ok_le ?_ | refine ok_gt ?_ | refine ok_ge ?_ | refine ok_eqI ?_ | refine ok_neI ?_ | refine ok_mod (by first | assumption | decide | omega) ?_ | refine ok_ixL (by with_unfolding_all exact rfl) ?_)
  | (with_reducible show CbK _ _ _ _; with_reducible first | refine ck_lenL ?_ | refine ck_lenT ?_ | refine ck_int ?_ | refine ck_intB ?_ | refine ck_max ?_ | refine ck_min ?_ | refine ck_list ?_)
  | with_reducible refine wq_of ?_
  | (with_reducible show WG _ _ _ _ _; with_reducible first | refine wg_name (by with_unfolding_all exact rfl) ?_ | refine wg_tup (by with_unfolding_all exact rfl) ?_ | refine wg_set (by with_unfolding_all exact rfl) ?_)
  | (with_reducible show WGs _ _ _ _ _; with_reducible first | refine wgs_cons ?_ | refine wgs_nil ?_)
  | with_reducible refine iteT ?_
  | with_reducible refine iteF ?_
  | with_reducible refine ⟨_, frz_per, ?_⟩
  | with_reducible refine ⟨_, frz_own, ?_⟩
  | refine ⟨_, rfl, ?_⟩
  | refine ⟨_, argD1, ?_⟩
  | refine ⟨_, argD2, ?_⟩
  | refine ⟨_, argD0, ?_⟩
  | refine ⟨_, argD3, ?_⟩
  | refine ⟨_, argD4, ?_⟩
  | refine ⟨_, _, rfl, rfl, rfl, ?_⟩
  | refine ⟨_, _, _, rfl, rfl, rfl, ?_⟩
  | refine ⟨(by simp only [List.length_cons, List.length_nil]; decide), ?_⟩
  | refine ⟨rfl, nd1, ?_⟩
  | refine ⟨rfl, nd0, ?_⟩)
local macro_rules | `(tactic| walk_at "go") => `(tactic| repeat walk_at "g1")
local macro_rules | `(tactic| walk_at "g2") => `(tactic| first
  | (with_reducible show WE _ _ _; with_reducible first | refine we_var (by with_unfolding_all exact rfl) ?_ | (show WE (tOp _ _ _) _ _; first | refine we_notN ?_ | refine we_ixS (by with_unfolding_all exact rfl) ?_ | refine we_ixScr (by with_unfolding_all exact rfl) ?_ | refine we_inS (by with_unfolding_all exact rfl) ?_ | refine we_notInS (by with_unfolding_all exact rfl) ?_ | refine we_eqS (by with_unfolding_all exact rfl) ?_ | refine we_neS (by with_unfolding_all exact rfl) ?_ | refine we_opK ?_) | (show WE (tCB _ _) _ _; first | refine we_isInt ?_ | refine we_isBl ?_ | refine we_isLst ?_ | refine we_isTup ?_ | refine we_lenO (by with_unfolding_all exact rfl) ?_ | refine we_lenS' (by with_unfolding_all exact rfl) ?_ | refine we_lenScr (by with_unfolding_all exact rfl) ?_ | refine we_cbK ?_) | refine we_chain ?_ | refine we_slice ?_ | refine we_int ?_ | refine we_bl ?_ | refine we_non ?_ | refine we_str ?_ | refine we_neg ?_ | refine we_not ?_ | refine we_and ?_ | refine we_or ?_ | refine we_if ?_ | refine we_tup ?_ | refine we_lst ?_ | refine we_call ?_ | refine we_mt (by with_unfolding_all exact rfl) ?_)
  | (with_reducible show WS _ _ _ _; with_reducible first | refine ws_seqA ?_ | refine ws_seqD ?_ | refine ws_asg (by with_unfolding_all exact rfl) ?_ | refine ws_asgG ?_ | refine ws_if ?_ | refine ws_ret ?_ | refine ws_drop ?_ | refine ws_next ?_ | refine ws_retN ?_)
  | (with_reducible show WT _ _ _; with_reducible first | refine wt_test ?_ | refine wt_B ?_ | refine wt_not ?_ | refine wt_and ?_ | refine wt_or ?_ | refine wt_yes ?_)
  | (with_reducible show WA _ _ _; with_reducible first | refine wa_nil ?_ | refine wa_cons (wq_of (we_var (by with_unfolding_all exact rfl) ?_)) | refine wa_slotU (by with_unfolding_all exact rfl) ?_ | refine wa_cons ?_)
  | (with_reducible show OpK _ _ _ _ _; with_reducible first | refine ok_isB ?_ | refine ok_notB ?_ | refine ok_plusI ?_ | refine ok_sub ?_ | refine ok_lt ?_ | refine ok_le ?_ | refine ok_gt ?_ | refine ok_ge ?_ | refine ok_eqI ?_ | refine ok_neI ?_ | refine ok_mod (by first | assumption | decide | omega) ?_ | refine ok_ixL (by with_unfolding_all exact rfl) ?_)
  | (with_reducible show CbK _ _ _ _; with_reducible first | refine ck_lenL ?_ | refine ck_lenT ?_ | refine ck_int ?_ | refine ck_intB ?_ | refine ck_max ?_ | refine ck_min ?_ | refine ck_list ?_)
  | with_reducible refine wq_of ?_
  | (with_reducible show WG _ _ _ _ _; with_reducible first | refine wg_name (by with_unfolding_all exact rfl) ?_ | refine wg_tup (by with_unfolding_all exact rfl) ?_ | refine wg_set (by with_unfolding_all exact rfl) ?_)
  | (with_reducible show WGs _ _ _ _ _; with_reducible first | refine wgs_cons ?_ | refine wgs_nil ?_)
  | (with_reducible show WO _ _ _; with_reducible first | refine wo_some ?_ | refine wo_none ?_)
  | refine ⟨_, argD5, ?_⟩
  | refine ⟨_, argD6, ?_⟩
  | refine ⟨_, argD7, ?_⟩
  | refine ⟨_, argD9, ?_⟩
  | with_reducible refine iteT ?_
  | with_reducible refine iteF ?_
  | with_reducible refine ⟨_, frz_per, ?_⟩
  | with_reducible refine ⟨_, frz_own, ?_⟩
  | refine ⟨_, rfl, ?_⟩
  | refine ⟨_, argD1, ?_⟩
  | refine ⟨_, argD2, ?_⟩
  | refine ⟨_, argD0, ?_⟩
  | refine ⟨_, argD3, ?_⟩
  | refine ⟨_, argD4, ?_⟩
  | refine ⟨_, _, rfl, rfl, rfl, ?_⟩
  | refine ⟨_, _, _, rfl, rfl, rfl, ?_⟩
  | refine ⟨(by simp only [List.length_cons, List.length_nil]; decide), ?_⟩
  | refine ⟨rfl, nd1, ?_⟩
  | refine ⟨rfl, nd0, ?_⟩)
local macro_rules | `(tactic| walk_at "w") => `(tactic| first
  | (with_reducible show WE _ _ _; with_reducible first | refine we_var (by with_unfolding_all exact rfl) ?_ | refine we_varF (by with_unfolding_all exact rfl) frz_own ?_ | (show WE (tOp _ _ _) _ _; first | refine we_isNd ?_ | refine we_notNd ?_ | refine we_notN ?_ | refine we_ixS (by with_unfolding_all exact rfl) ?_ | refine we_ixScr (by with_unfolding_all exact rfl) ?_ | refine we_inS (by with_unfolding_all exact rfl) ?_ | refine we_notInS (by with_unfolding_all exact rfl) ?_ | refine we_eqS (by with_unfolding_all exact rfl) ?_ | refine we_neS (by with_unfolding_all exact rfl) ?_ | refine we_opK ?_) | (show WE (tCB _ _) _ _; first | refine we_repr ?_ | refine we_isInt ?_ | refine we_isBl ?_ | refine we_isLst ?_ | refine we_isTup ?_ | refine we_lenO (by with_unfolding_all exact rfl) ?_ | refine we_lenS' (by with_unfolding_all exact rfl) ?_ | refine we_lenScr (by with_unfolding_all exact rfl) ?_ | refine we_cbK ?_) | refine we_dnew ?_ | refine we_lenSetI ?_ | refine we_revL ?_ | refine we_chain ?_ | refine we_slice ?_ | refine we_int ?_ | refine we_bl ?_ | refine we_non ?_ | refine we_str ?_ | refine we_neg ?_ | refine we_not ?_ | refine we_and ?_ | refine we_or ?_ | refine we_if ?_ | refine we_tup ?_ | refine we_lst ?_ | refine we_call ?_ | refine we_mt (by with_unfolding_all exact rfl) ?_)
  | (with_reducible show WS _ _ _ _; with_reducible first | refine ws_seqI ?_ | refine ws_seqA ?_ | refine ws_seqD ?_ | refine ws_asg (by with_unfolding_all exact rfl) ?_ | refine ws_asgG ?_ | refine ws_if ?_ | refine ws_ret ?_ | refine ws_drop ?_ | refine ws_next ?_ | refine ws_retN ?_)
  | (with_reducible show WT _ _ _; with_reducible first | refine wt_truL ?_ | refine wt_test ?_ | refine wt_B ?_ | refine wt_not ?_ | refine wt_and ?_ | refine wt_or ?_ | refine wt_yes ?_)
  | (with_reducible show WA _ _ _; with_reducible first | refine wa_nil ?_ | refine wa_cons (wq_of (we_var (by with_unfolding_all exact rfl) ?_)) | refine wa_slotU (by with_unfolding_all exact rfl) ?_ | refine wa_cons ?_)
  | (with_reducible show OpK _ _ _ _ _; with_reducible first | refine ok_neR ?_ | refine ok_eqR ?_ | refine ok_isB ?_ | refine ok_notB ?_ | refine ok_plusI ?_ | refine ok_sub ?_ | refine ok_lt ?_ | refine ok_le ?_ | refine ok_gt ?_ | refine ok_ge ?_ | refine ok_eqI ?_ | refine ok_neI ?_ | refine ok_mod (by first | assumption | decide | omega) ?_ | refine ok_ixL (by with_unfolding_all exact rfl) ?_)
  | (with_reducible show CbK _ _ _ _; with_reducible first | refine ck_tuple ?_ | refine ck_allF ?_ | refine ck_anyF ?_ | refine ck_abs ?_ | refine ck_sumI ?_ | refine ck_lenL ?_ | refine ck_lenT ?_ | refine ck_int ?_ | refine ck_intB ?_ | refine ck_max ?_ | refine ck_min ?_ | refine ck_list ?_)
  | with_reducible refine wq_of ?_
  | (with_reducible show WG _ _ _ _ _; with_reducible first | refine wg_name (by with_unfolding_all exact rfl) ?_ | refine wg_tup (by with_unfolding_all exact rfl) ?_ | refine wg_set (by with_unfolding_all exact rfl) ?_)
  | (with_reducible show WGs _ _ _ _ _; with_reducible first | refine wgs_cons ?_ | refine wgs_nil ?_)
  | (with_reducible show WO _ _ _; with_reducible first | refine wo_some ?_ | refine wo_none ?_)
  | refine ⟨_, argD5, ?_⟩
  | refine ⟨_, argD6, ?_⟩
  | refine ⟨_, argD7, ?_⟩
  | refine ⟨_, argD9, ?_⟩
  | with_reducible refine iteT ?_
  | with_reducible refine iteF ?_
  | with_reducible refine ⟨_, frz_per, ?_⟩
  | with_reducible refine ⟨_, frz_own, ?_⟩
  | refine ⟨_, rfl, ?_⟩
  | refine ⟨_, argD1, ?_⟩
  | refine ⟨_, argD2, ?_⟩
  | refine ⟨_, argD0, ?_⟩
  | refine ⟨_, argD3, ?_⟩
  | refine ⟨_, argD4, ?_⟩
  | refine ⟨_, _, rfl, rfl, rfl, ?_⟩
  | refine ⟨_, _, _, rfl, rfl, rfl, ?_⟩
  | refine ⟨(by simp only [List.length_cons, List.length_nil]; decide), ?_⟩
  | refine ⟨rfl, nd1, ?_⟩
  | refine ⟨rfl, nd0, ?_⟩
  | refine ⟨_, argD8, ?_⟩
  | refine ⟨_, argD10, ?_⟩)
local macro_rules | `(tactic| walk_at "v") => `(tactic| first
  | (with_reducible show WE _ _ _; with_reducible first | refine we_var (by with_unfolding_all exact rfl) ?_ | refine we_varF (by with_unfolding_all exact rfl) frz_own ?_ | (show WE (tOp _ _ _) _ _; first | refine we_isNd ?_ | refine we_notNd ?_ | refine we_notN ?_ | refine we_ixS (by with_unfolding_all exact rfl) ?_ | refine we_ixScr (by with_unfolding_all exact rfl) ?_ | refine we_inS (by with_unfolding_all exact rfl) ?_ | refine we_notInS (by with_unfolding_all exact rfl) ?_ | refine we_eqS (by with_unfolding_all exact rfl) ?_ | refine we_neS (by with_unfolding_all exact rfl) ?_ | refine we_opK ?_) | (show WE (tCB _ _) _ _; first | refine we_repr ?_ | refine we_lenWeb (by with_unfolding_all exact rfl) (by assumption) ?_ | refine we_isInt ?_ | refine we_isBl ?_ | refine we_isLst ?_ | refine we_isTup ?_ | refine we_lenO (by with_unfolding_all exact rfl) ?_ | refine we_lenS' (by with_unfolding_all exact rfl) ?_ | refine we_lenScr (by with_unfolding_all exact rfl) ?_ | refine we_cbK ?_) | refine we_dnew ?_ | refine we_lenSetI ?_ | refine we_revL ?_ | refine we_nbWeb (by with_unfolding_all exact rfl) (by assumption) (by assumption) ?_ | refine we_tiesWeb (by with_unfolding_all exact rfl) ?_ | refine we_chain ?_ | refine we_slice ?_ | refine we_int ?_ | refine we_bl ?_ | refine we_non ?_ | refine we_str ?_ | refine we_neg ?_ | refine we_not ?_ | refine we_and ?_ | refine we_or ?_ | refine we_if ?_ | refine we_tup ?_ | refine we_lst ?_ | refine we_call ?_ | refine we_mt (by with_unfolding_all exact rfl) ?_)
  | (with_reducible show WS _ _ _ _; with_reducible first | refine ws_seqI ?_ | refine ws_seqA ?_ | refine ws_seqD ?_ | refine ws_asg (by with_unfolding_all exact rfl) ?_ | refine ws_asgG ?_ | refine ws_if ?_ | refine ws_ret ?_ | refine ws_drop ?_ | refine ws_next ?_ | refine ws_retN ?_)
  | (with_reducible show WT _ _ _; with_reducible first | refine wt_truL ?_ | refine wt_test ?_ | refine wt_B ?_ | refine wt_not ?_ | refine wt_and ?_ | refine wt_or ?_ | refine wt_yes ?_)
  | (with_reducible show WA _ _ _; with_reducible first | refine wa_nil ?_ | refine wa_cons (wq_of (we_var (by with_unfolding_all exact rfl) ?_)) | refine wa_slotU (by with_unfolding_all exact rfl) ?_ | refine wa_cons ?_)
  | (with_reducible show OpK _ _ _ _ _; with_reducible first | refine ok_neR ?_ | refine ok_eqR ?_ | refine ok_isB ?_ | refine ok_notB ?_ | refine ok_plusI ?_ | refine ok_sub ?_ | refine ok_lt ?_ | refine ok_le ?_ | refine ok_gt ?_ | refine ok_ge ?_ | refine ok_eqI ?_ | refine ok_neI ?_ | refine ok_mod (by first | assumption | decide | omega) ?_ | refine ok_ixL (by with_unfolding_all exact rfl) ?_)
  | (with_reducible show CbK _ _ _ _; with_reducible first | refine ck_tuple ?_ | refine ck_allF ?_ | refine ck_anyF ?_ | refine ck_abs ?_ | refine ck_sumI ?_ | refine ck_lenL ?_ | refine ck_lenT ?_ | refine ck_int ?_ | refine ck_intB ?_ | refine ck_max ?_ | refine ck_min ?_ | refine ck_list ?_)
  | with_reducible refine wq_of ?_
  | (with_reducible show WG _ _ _ _ _; with_reducible first | refine wg_name (by with_unfolding_all exact rfl) ?_ | refine wg_tup (by with_unfolding_all exact rfl) ?_ | refine wg_set (by with_unfolding_all exact rfl) ?_)
  | (with_reducible show WGs _ _ _ _ _; with_reducible first | refine wgs_cons ?_ | refine wgs_nil ?_)
  | (with_reducible show WO _ _ _; with_reducible first | refine wo_some ?_ | refine wo_none ?_)
  | refine ⟨_, argD5, ?_⟩
  | refine ⟨_, argD6, ?_⟩
  | refine ⟨_, argD7, ?_⟩
  | refine ⟨_, argD9, ?_⟩
  | with_reducible refine iteT ?_
  | with_reducible refine iteF ?_
  | with_reducible refine ⟨_, frz_per, ?_⟩
  | with_reducible refine ⟨_, frz_own, ?_⟩
  | refine ⟨_, rfl, ?_⟩
  | refine ⟨_, argD1, ?_⟩
  | refine ⟨_, argD2, ?_⟩
  | refine ⟨_, argD0, ?_⟩
  | refine ⟨_, argD3, ?_⟩
  | refine ⟨_, argD4, ?_⟩
  | refine ⟨_, _, rfl, rfl, rfl, ?_⟩
  | refine ⟨_, _, _, rfl, rfl, rfl, ?_⟩
  | refine ⟨(by simp only [List.length_cons, List.length_nil]; decide), ?_⟩
  | refine ⟨rfl, nd1, ?_⟩
  | refine ⟨rfl, nd0, ?_⟩
  | refine ⟨_, argD8, ?_⟩
  | refine ⟨_, argD10, ?_⟩)
local macro_rules | `(tactic| walk_at "p") => `(tactic| refine ⟨_, _, rfl, (by omega), (by first | decide | omega), (by first | decide | omega), ?_⟩)
local macro_rules | `(tactic| walk_at "n") => `(tactic| try dsimp only [back, List.set_cons_zero, List.set_cons_succ, List.map_cons, List.map_nil, List.cons_append, List.nil_append])
local macro_rules | `(tactic| walk_at "q") => `(tactic| first | with_reducible refine ws_seqP (ws_par (by with_unfolding_all exact rfl) (by with_unfolding_all exact rfl) ?_) | refine ⟨_, _, rfl, ?_⟩ | walk_at "v")
local macro_rules | `(tactic| walk_at "j") => `(tactic| first
  | (with_reducible show WA _ _ _; with_reducible refine wa_slotJ (by with_unfolding_all exact rfl) ?_)
  | walk_at "v")
local macro_rules | `(tactic| walk_at "g3") => `(tactic| first | with_reducible refine we_dnew ?_ | with_reducible refine ck_tuple ?_ | with_reducible refine we_repr ?_ | walk_at "g2")
namespace J
end J
end G

namespace G
/-! ### places struck one after the other -/
end G

/-! ### list(xs) of an own list; the lists within an own list frozen; each grown by one and turned round -/
namespace G
open PySem L2
section
variable {K : PySem.W.Frag} {P : Nat → Bool} {Γ Γ0 : Ga} {D : Pe} {k : Gp → Ga → Prop} {te : TE}
end
end G

/-! ### enumerate; xs[j].pop(), xs[j].remove(y); a tuple of two own lists -/
namespace G
open PySem L2
section
variable {K : PySem.W.Frag} {P : Nat → Bool} {Γ : Ga} {D : Pe} {k : Gp → Ga → Prop} {te : TE} {tr : TA}
end
section
variable {K : PySem.W.Frag} {P : Nat → Bool} {Γ : Ga} {D : Pe} {k : Gp → Ga → Prop} {te : TE}
end
end G
namespace G
open PySem L2
end G
namespace G
open PySem L2
/-- a slot forgotten -/
theorem ws_non {P : Nat → Bool} {Γ : Ga} {D : Pe} (i : Nat) {t : TS} (h : WS P t (Γ.set i none) D) : WS P t Γ D := fun ω σ H S E m => h ω σ H ⟨by rw [List.length_set]; exact S.1, fun j g hj => by
  rw [set_eq] at hj
  by_cases c : i = j
  · rw [if_pos c] at hj
    split at hj <;> cases hj
  · rw [if_neg c] at hj
    exact S.2 j g hj⟩ E m
end G

/-! ### own sets of ints: set(), {x}, s.add(x), x in s, x not in s, sorted(s) -/
namespace GSO
open PySem PySem.Spec PyProof.Rows L2
section
variable {P : Program} {w : World} {A : Around} {E : Value → Shared → Prop} {s : Shared}
end
end GSO

namespace L2
open PySem PySem.Spec PyProof.Rows
section
variable {P : Program} {w : World} {K : PySem.W.Frag} {mg : Str → Option Value} {base : Heap} {x qual : Str} {params : Arguments} {body : List Stmt} {scope : Scope} {dvs : List V} {kws : List (Str × V)} {f : Addr} {fd : FuncData}
end
end L2
namespace G
open PySem PySem.Spec PyProof.Rows L2 GSO
section
variable {w : World} {K : PySem.W.Frag} {P : Nat → Bool} {Γ : Ga} {D : Pe} {k : Gp → Ga → Prop} {te : TE}
end
end G

namespace G
open PySem L2
section
variable {K : PySem.W.Frag} {P : Nat → Bool} {Γ : Ga} {D : Pe} {kb : Bool → Ga → Prop}
end
end G

namespace G
open PySem PySem.Spec PyProof.Rows L2 GSO
theorem own_nil2 : Ent (own []) (own2 []) := fun A v R ⟨a, vs, e, h, t⟩ => by
  cases t
  exact ⟨a, [], e, h, by simp, rfl, fun i b ds e1 _ => by simp at e1⟩
section
variable {K : PySem.W.Frag} {w : World} {P : Nat → Bool} {Γ : Ga} {D : Pe}
end
end G

namespace G
open PySem L2
local macro_rules | `(tactic| walk_at "g1") => `(tactic| first
  | (with_reducible show WE _ _ _; with_reducible first | refine we_var (by with_unfolding_all exact rfl) ?_ | (show WE (tOp _ _ _) _ _; first | refine we_ixS (by with_unfolding_all exact rfl) ?_ | refine we_ixScr (by with_unfolding_all exact rfl) ?_ | refine we_inS (by with_unfolding_all exact rfl) ?_ | refine we_notInS (by with_unfolding_all exact rfl) ?_ | refine we_eqS (by with_unfolding_all exact rfl) ?_ | refine we_neS (by with_unfolding_all exact rfl) ?_ | refine we_opK ?_) | (show WE (tCB _ _) _ _; first | refine we_lenS' (by with_unfolding_all exact rfl) ?_ | refine we_lenScr (by with_unfolding_all exact rfl) ?_ | refine we_cbK ?_) | refine we_int ?_ | refine we_bl ?_ | refine we_non ?_ | refine we_str ?_ | refine we_neg ?_ | refine we_not ?_ | refine we_and ?_ | refine we_or ?_ | refine we_if ?_ | refine we_tup ?_ | refine we_lst ?_ | refine we_call ?_ | refine we_mt (by with_unfolding_all exact rfl) ?_)
  | (with_reducible show WS _ _ _ _; with_reducible first | refine ws_seqA ?_ | refine ws_seqD ?_ | refine ws_asg (by with_unfolding_all exact rfl) ?_ | refine ws_asgG ?_ | refine ws_if ?_ | refine ws_ret ?_ | refine ws_drop ?_ | refine ws_next ?_ | refine ws_retN ?_)
  | (with_reducible show WT _ _ _; with_reducible first | refine wt_test ?_ | refine wt_B ?_ | refine wt_not ?_ | refine wt_and ?_ | refine wt_or ?_ | refine wt_yes ?_)
  | (with_reducible show WA _ _ _; with_reducible first | refine wa_nil ?_ | refine wa_cons (wq_of (we_var (by with_unfolding_all exact rfl) ?_)) | refine wa_slotU (by with_unfolding_all exact rfl) ?_ | refine wa_cons ?_)
  | (with_reducible show OpK _ _ _ _ _; with_reducible first | refine ok_plusI ?_ | refine ok_sub ?_ | refine ok_lt ?_ | refine ok_le ?_ | refine ok_gt ?_ | refine ok_ge ?_ | refine ok_eqI ?_ | refine ok_neI ?_ | refine ok_mod (by first | assumption | decide | omega) ?_ | refine ok_ixL (by with_unfolding_all exact rfl) ?_)
  | (with_reducible show CbK _ _ _ _; with_reducible first | refine ck_lenL ?_ | refine ck_lenT ?_ | refine ck_int ?_ | refine ck_intB ?_ | refine ck_max ?_ | refine ck_min ?_ | refine ck_list ?_)
  | with_reducible refine wq_of ?_
  | (with_reducible show WG _ _ _ _ _; with_reducible first | refine wg_name (by with_unfolding_all exact rfl) ?_ | refine wg_tup (by with_unfolding_all exact rfl) ?_ | refine wg_set (by with_unfolding_all exact rfl) ?_)
  | (with_reducible show WGs _ _ _ _ _; with_reducible first | refine wgs_cons ?_ | refine wgs_nil ?_)
  | with_reducible refine iteT ?_
  | with_reducible refine iteF ?_
  | with_reducible refine ⟨_, frz_per, ?_⟩
  | with_reducible refine ⟨_, frz_own, ?_⟩
  | refine ⟨_, rfl, ?_⟩
  | refine ⟨_, argD1, ?_⟩
  | refine ⟨_, argD2, ?_⟩
  | refine ⟨_, argD0, ?_⟩
  | refine ⟨_, argD3, ?_⟩
  | refine ⟨_, argD4, ?_⟩
  | refine ⟨_, _, rfl, rfl, rfl, ?_⟩
  | refine ⟨_, _, _, rfl, rfl, rfl, ?_⟩
  | refine ⟨(by simp only [List.length_cons, List.length_nil]; decide), ?_⟩
  | refine ⟨rfl, nd1, ?_⟩
  | refine ⟨rfl, nd0, ?_⟩)
local macro_rules | `(tactic| walk_at "go") => `(tactic| repeat walk_at "g1")
local macro_rules | `(tactic| walk_at "g2") => `(tactic| first
  | (with_reducible show WE _ _ _; with_reducible first | refine we_var (by with_unfolding_all exact rfl) ?_ | (show WE (tOp _ _ _) _ _; first | refine we_notN ?_ | refine we_ixS (by with_unfolding_all exact rfl) ?_ | refine we_ixScr (by with_unfolding_all exact rfl) ?_ | refine we_inS (by with_unfolding_all exact rfl) ?_ | refine we_notInS (by with_unfolding_all exact rfl) ?_ | refine we_eqS (by with_unfolding_all exact rfl) ?_ | refine we_neS (by with_unfolding_all exact rfl) ?_ | refine we_opK ?_) | (show WE (tCB _ _) _ _; first | refine we_isInt ?_ | refine we_isBl ?_ | refine we_isLst ?_ | refine we_isTup ?_ | refine we_lenO (by with_unfolding_all exact rfl) ?_ | refine we_lenS' (by with_unfolding_all exact rfl) ?_ | refine we_lenScr (by with_unfolding_all exact rfl) ?_ | refine we_cbK ?_) | refine we_chain ?_ | refine we_slice ?_ | refine we_int ?_ | refine we_bl ?_ | refine we_non ?_ | refine we_str ?_ | refine we_neg ?_ | refine we_not ?_ | refine we_and ?_ | refine we_or ?_ | refine we_if ?_ | refine we_tup ?_ | refine we_lst ?_ | refine we_call ?_ | refine we_mt (by with_unfolding_all exact rfl) ?_)
  | (with_reducible show WS _ _ _ _; with_reducible first | refine ws_seqA ?_ | refine ws_seqD ?_ | refine ws_asg (by with_unfolding_all exact rfl) ?_ | refine ws_asgG ?_ | refine ws_if ?_ | refine ws_ret ?_ | refine ws_drop ?_ | refine ws_next ?_ | refine ws_retN ?_)
  | (with_reducible show WT _ _ _; with_reducible first | refine wt_test ?_ | refine wt_B ?_ | refine wt_not ?_ | refine wt_and ?_ | refine wt_or ?_ | refine wt_yes ?_)
  | (with_reducible show WA _ _ _; with_reducible first | refine wa_nil ?_ | refine wa_cons (wq_of (we_var (by with_unfolding_all exact rfl) ?_)) | refine wa_slotU (by with_unfolding_all exact rfl) ?_ | refine wa_cons ?_)
  | (with_reducible show OpK _ _ _ _ _; with_reducible first | refine ok_isB ?_ | refine ok_notB ?_ | refine ok_plusI ?_ | refine ok_sub ?_ | refine ok_lt ?_ | refine ok_le ?_ | refine ok_gt ?_ | refine ok_ge ?_ | refine ok_eqI ?_ | refine ok_neI ?_ | refine ok_mod (by first | assumption | decide | omega) ?_ | refine ok_ixL (by with_unfolding_all exact rfl) ?_)
  | (with_reducible show CbK _ _ _ _; with_reducible first | refine ck_lenL ?_ | refine ck_lenT ?_ | refine ck_int ?_ | refine ck_intB ?_ | refine ck_max ?_ | refine ck_min ?_ | refine ck_list ?_)
  | with_reducible refine wq_of ?_
  | (with_reducible show WG _ _ _ _ _; with_reducible first | refine wg_name (by with_unfolding_all exact rfl) ?_ | refine wg_tup (by with_unfolding_all exact rfl) ?_ | refine wg_set (by with_unfolding_all exact rfl) ?_)
  | (with_reducible show WGs _ _ _ _ _; with_reducible first | refine wgs_cons ?_ | refine wgs_nil ?_)
  | (with_reducible show WO _ _ _; with_reducible first | refine wo_some ?_ | refine wo_none ?_)
  | refine ⟨_, argD5, ?_⟩
  | refine ⟨_, argD6, ?_⟩
  | refine ⟨_, argD7, ?_⟩
  | refine ⟨_, argD9, ?_⟩
  | with_reducible refine iteT ?_
  | with_reducible refine iteF ?_
  | with_reducible refine ⟨_, frz_per, ?_⟩
  | with_reducible refine ⟨_, frz_own, ?_⟩
  | refine ⟨_, rfl, ?_⟩
  | refine ⟨_, argD1, ?_⟩
  | refine ⟨_, argD2, ?_⟩
  | refine ⟨_, argD0, ?_⟩
  | refine ⟨_, argD3, ?_⟩
  | refine ⟨_, argD4, ?_⟩
  | refine ⟨_, _, rfl, rfl, rfl, ?_⟩
  | refine ⟨_, _, _, rfl, rfl, rfl, ?_⟩
  | refine ⟨(by simp only [List.length_cons, List.length_nil]; decide), ?_⟩
  | refine ⟨rfl, nd1, ?_⟩
  | refine ⟨rfl, nd0, ?_⟩)
local macro_rules | `(tactic| walk_at "w") => `(tactic| first
  | (with_reducible show WE _ _ _; with_reducible first | refine we_var (by with_unfolding_all exact rfl) ?_ | refine we_varF (by with_unfolding_all exact rfl) frz_own ?_ | (show WE (tOp _ _ _) _ _; first | refine we_isNd ?_ | refine we_notNd ?_ | refine we_notN ?_ | refine we_ixS (by with_unfolding_all exact rfl) ?_ | refine we_ixScr (by with_unfolding_all exact rfl) ?_ | refine we_inS (by with_unfolding_all exact rfl) ?_ | refine we_notInS (by with_unfolding_all exact rfl) ?_ | refine we_eqS (by with_unfolding_all exact rfl) ?_ | refine we_neS (by with_unfolding_all exact rfl) ?_ | refine we_opK ?_) | (show WE (tCB _ _) _ _; first | refine we_repr ?_ | refine we_isInt ?_ | refine we_isBl ?_ | refine we_isLst ?_ | refine we_isTup ?_ | refine we_lenO (by with_unfolding_all exact rfl) ?_ | refine we_lenS' (by with_unfolding_all exact rfl) ?_ | refine we_lenScr (by with_unfolding_all exact rfl) ?_ | refine we_cbK ?_) | refine we_dnew ?_ | refine we_lenSetI ?_ | refine we_revL ?_ | refine we_chain ?_ | refine we_slice ?_ | refine we_int ?_ | refine we_bl ?_ | refine we_non ?_ | refine we_str ?_ | refine we_neg ?_ | refine we_not ?_ | refine we_and ?_ | refine we_or ?_ | refine we_if ?_ | refine we_tup ?_ | refine we_lst ?_ | refine we_call ?_ | refine we_mt (by with_unfolding_all exact rfl) ?_)
  | (with_reducible show WS _ _ _ _; with_reducible first | refine ws_seqI ?_ | refine ws_seqA ?_ | refine ws_seqD ?_ | refine ws_asg (by with_unfolding_all exact rfl) ?_ | refine ws_asgG ?_ | refine ws_if ?_ | refine ws_ret ?_ | refine ws_drop ?_ | refine ws_next ?_ | refine ws_retN ?_)
  | (with_reducible show WT _ _ _; with_reducible first | refine wt_truL ?_ | refine wt_test ?_ | refine wt_B ?_ | refine wt_not ?_ | refine wt_and ?_ | refine wt_or ?_ | refine wt_yes ?_)
  | (with_reducible show WA _ _ _; with_reducible first | refine wa_nil ?_ | refine wa_cons (wq_of (we_var (by with_unfolding_all exact rfl) ?_)) | refine wa_slotU (by with_unfolding_all exact rfl) ?_ | refine wa_cons ?_)
  | (with_reducible show OpK _ _ _ _ _; with_reducible first | refine ok_neR ?_ | refine ok_eqR ?_ | refine ok_isB ?_ | refine ok_notB ?_ | refine ok_plusI ?_ | refine ok_sub ?_ | refine ok_lt ?_ | refine ok_le ?_ | refine ok_gt ?_ | refine ok_ge ?_ | refine ok_eqI ?_ | refine ok_neI ?_ | refine ok_mod (by first | assumption | decide | omega) ?_ | refine ok_ixL (by with_unfolding_all exact rfl) ?_)
  | (with_reducible show CbK _ _ _ _; with_reducible first | refine ck_tuple ?_ | refine ck_allF ?_ | refine ck_anyF ?_ | refine ck_abs ?_ | refine ck_sumI ?_ | refine ck_lenL ?_ | refine ck_lenT ?_ | refine ck_int ?_ | refine ck_intB ?_ | refine ck_max ?_ | refine ck_min ?_ | refine ck_list ?_)
  | with_reducible refine wq_of ?_
  | (with_reducible show WG _ _ _ _ _; with_reducible first | refine wg_name (by with_unfolding_all exact rfl) ?_ | refine wg_tup (by with_unfolding_all exact rfl) ?_ | refine wg_set (by with_unfolding_all exact rfl) ?_)
  | (with_reducible show WGs _ _ _ _ _; with_reducible first | refine wgs_cons ?_ | refine wgs_nil ?_)
  | (with_reducible show WO _ _ _; with_reducible first | refine wo_some ?_ | refine wo_none ?_)
  | refine ⟨_, argD5, ?_⟩
  | refine ⟨_, argD6, ?_⟩
  | refine ⟨_, argD7, ?_⟩
  | refine ⟨_, argD9, ?_⟩
  | with_reducible refine iteT ?_
  | with_reducible refine iteF ?_
  | with_reducible refine ⟨_, frz_per, ?_⟩
  | with_reducible refine ⟨_, frz_own, ?_⟩
  | refine ⟨_, rfl, ?_⟩
  | refine ⟨_, argD1, ?_⟩
  | refine ⟨_, argD2, ?_⟩
  | refine ⟨_, argD0, ?_⟩
  | refine ⟨_, argD3, ?_⟩
  | refine ⟨_, argD4, ?_⟩
  | refine ⟨_, _, rfl, rfl, rfl, ?_⟩
  | refine ⟨_, _, _, rfl, rfl, rfl, ?_⟩
  | refine ⟨(by simp only [List.length_cons, List.length_nil]; decide), ?_⟩
  | refine ⟨rfl, nd1, ?_⟩
  | refine ⟨rfl, nd0, ?_⟩
  | refine ⟨_, argD8, ?_⟩
  | refine ⟨_, argD10, ?_⟩)
local macro_rules | `(tactic| walk_at "v") => `(tactic| first
  | (with_reducible show WE _ _ _; with_reducible first | refine we_var (by with_unfolding_all exact rfl) ?_ | refine we_varF (by with_unfolding_all exact rfl) frz_own ?_ | (show WE (tOp _ _ _) _ _; first | refine we_isNd ?_ | refine we_notNd ?_ | refine we_notN ?_ | refine we_ixS (by with_unfolding_all exact rfl) ?_ | refine we_ixScr (by with_unfolding_all exact rfl) ?_ | refine we_inS (by with_unfolding_all exact rfl) ?_ | refine we_notInS (by with_unfolding_all exact rfl) ?_ | refine we_eqS (by with_unfolding_all exact rfl) ?_ | refine we_neS (by with_unfolding_all exact rfl) ?_ | refine we_opK ?_) | (show WE (tCB _ _) _ _; first | refine we_repr ?_ | refine we_lenWeb (by with_unfolding_all exact rfl) (by assumption) ?_ | refine we_isInt ?_ | refine we_isBl ?_ | refine we_isLst ?_ | refine we_isTup ?_ | refine we_lenO (by with_unfolding_all exact rfl) ?_ | refine we_lenS' (by with_unfolding_all exact rfl) ?_ | refine we_lenScr (by with_unfolding_all exact rfl) ?_ | refine we_cbK ?_) | refine we_dnew ?_ | refine we_lenSetI ?_ | refine we_revL ?_ | refine we_nbWeb (by with_unfolding_all exact rfl) (by assumption) (by assumption) ?_ | refine we_tiesWeb (by with_unfolding_all exact rfl) ?_ | refine we_chain ?_ | refine we_slice ?_ | refine we_int ?_ | refine we_bl ?_ | refine we_non ?_ | refine we_str ?_ | refine we_neg ?_ | refine we_not ?_ | refine we_and ?_ | refine we_or ?_ | refine we_if ?_ | refine we_tup ?_ | refine we_lst ?_ | refine we_call ?_ | refine we_mt (by with_unfolding_all exact rfl) ?_)
  | (with_reducible show WS _ _ _ _; with_reducible first | refine ws_seqI ?_ | refine ws_seqA ?_ | refine ws_seqD ?_ | refine ws_asg (by with_unfolding_all exact rfl) ?_ | refine ws_asgG ?_ | refine ws_if ?_ | refine ws_ret ?_ | refine ws_drop ?_ | refine ws_next ?_ | refine ws_retN ?_)
  | (with_reducible show WT _ _ _; with_reducible first | refine wt_truL ?_ | refine wt_test ?_ | refine wt_B ?_ | refine wt_not ?_ | refine wt_and ?_ | refine wt_or ?_ | refine wt_yes ?_)
  | (with_reducible show WA _ _ _; with_reducible first | refine wa_nil ?_ | refine wa_cons (wq_of (we_var (by with_unfolding_all exact rfl) ?_)) | refine wa_slotU (by with_unfolding_all exact rfl) ?_ | refine wa_cons ?_)
  | (with_reducible show OpK _ _ _ _ _; with_reducible first | refine ok_neR ?_ | refine ok_eqR ?_ | refine ok_isB ?_ | refine ok_notB ?_ | refine ok_plusI ?_ | refine ok_sub ?_ | refine ok_lt ?_ | refine ok_le ?_ | refine ok_gt ?_ | refine ok_ge ?_ | refine ok_eqI ?_ | refine ok_neI ?_ | refine ok_mod (by first | assumption | decide | omega) ?_ | refine ok_ixL (by with_unfolding_all exact rfl) ?_)
  | (with_reducible show CbK _ _ _ _; with_reducible first | refine ck_tuple ?_ | refine ck_allF ?_ | refine ck_anyF ?_ | refine ck_abs ?_ | refine ck_sumI ?_ | refine ck_lenL ?_ | refine ck_lenT ?_ | refine ck_int ?_ | refine ck_intB ?_ | refine ck_max ?_ | refine ck_min ?_ | refine ck_list ?_)
  | with_reducible refine wq_of ?_
  | (with_reducible show WG _ _ _ _ _; with_reducible first | refine wg_name (by with_unfolding_all exact rfl) ?_ | refine wg_tup (by with_unfolding_all exact rfl) ?_ | refine wg_set (by with_unfolding_all exact rfl) ?_)
  | (with_reducible show WGs _ _ _ _ _; with_reducible first | refine wgs_cons ?_ | refine wgs_nil ?_)
  | (with_reducible show WO _ _ _; with_reducible first | refine wo_some ?_ | refine wo_none ?_)
  | refine ⟨_, argD5, ?_⟩
  | refine ⟨_, argD6, ?_⟩
  | refine ⟨_, argD7, ?_⟩
  | refine ⟨_, argD9, ?_⟩
  | with_reducible refine iteT ?_
  | with_reducible refine iteF ?_
  | with_reducible refine ⟨_, frz_per, ?_⟩
  | with_reducible refine ⟨_, frz_own, ?_⟩
  | refine ⟨_, rfl, ?_⟩
  | refine ⟨_, argD1, ?_⟩
  | refine ⟨_, argD2, ?_⟩
  | refine ⟨_, argD0, ?_⟩
  | refine ⟨_, argD3, ?_⟩
  | refine ⟨_, argD4, ?_⟩
  | refine ⟨_, _, rfl, rfl, rfl, ?_⟩
  | refine ⟨_, _, _, rfl, rfl, rfl, ?_⟩
  | refine ⟨(by simp only [List.length_cons, List.length_nil]; decide), ?_⟩
  | refine ⟨rfl, nd1, ?_⟩
  | refine ⟨rfl, nd0, ?_⟩
  | refine ⟨_, argD8, ?_⟩
  | refine ⟨_, argD10, ?_⟩)
local macro_rules | `(tactic| walk_at "p") => `(tactic| refine ⟨_, _, rfl, (by omega), (by first | decide | omega), (by first | decide | omega), ?_⟩)
local macro_rules | `(tactic| walk_at "n") => `(tactic| try dsimp only [back, List.set_cons_zero, List.set_cons_succ, List.map_cons, List.map_nil, List.cons_append, List.nil_append])
local macro_rules | `(tactic| walk_at "q") => `(tactic| first | with_reducible refine ws_seqP (ws_par (by with_unfolding_all exact rfl) (by with_unfolding_all exact rfl) ?_) | refine ⟨_, _, rfl, ?_⟩ | walk_at "v")
/-! ### what hangs together -/
inductive Conn (ts : List (Int × Int)) : Int → Int → Prop
  | refl (u : Int) : Conn ts u u
  | step {u v x : Int} : Conn ts u v → x ∈ nb ts v → Conn ts u x
/-- reached so far: xs; waiting: ws; E, what is under way -/
structure Front (n : Nat) (ts : List (Int × Int)) (p : Int) (xs ws : List Int) (E : Int → Prop) : Prop where
  root : p ∈ xs
  conn : ∀ x ∈ xs, Conn ts p x
  sub : ∀ x ∈ ws, x ∈ xs
  nd : xs.Nodup
  cl : ∀ x ∈ xs, x ∈ ws ∨ E x ∨ ∀ y ∈ nb ts x, y ∈ xs
  rng : ∀ x ∈ xs, 0 ≤ x ∧ x < n
theorem Front.all {n : Nat} {ts : List (Int × Int)} {p : Int} {xs : List Int} (F : Front n ts p xs [] fun _ => False) (x : Int) : x ∈ xs ↔ Conn ts p x := by
  refine ⟨F.conn x, fun h => ?_⟩
  have key : ∀ u, Conn ts p u → u ∈ xs := by
    intro u hc
    have : ∀ q u, Conn ts q u → q = p → u ∈ xs := by
      intro q u hc
      induction hc with
      | refl => intro e; rw [e]; exact F.root
      | step _ hx ih =>
        intro e
        rcases F.cl _ (ih e) with h | h | h
        · cases h
        · exact h.elim
        · exact h _ hx
    exact this p u hc rfl
  exact key x h
abbrev rowN (ms : List Int) : List PyData := ms.map .int
end G

namespace G
open PySem L2
local macro_rules | `(tactic| walk_at "g1") => `(tactic| first
  | (with_reducible show WE _ _ _; with_reducible first | refine we_var (by with_unfolding_all exact rfl) ?_ | (show WE (tOp _ _ _) _ _; first | refine we_ixS (by with_unfolding_all exact rfl) ?_ | refine we_ixScr (by with_unfolding_all exact rfl) ?_ | refine we_inS (by with_unfolding_all exact rfl) ?_ | refine we_notInS (by with_unfolding_all exact rfl) ?_ | refine we_eqS (by with_unfolding_all exact rfl) ?_ | refine we_neS (by with_unfolding_all exact rfl) ?_ | refine we_opK ?_) | (show WE (tCB _ _) _ _; first | refine we_lenS' (by with_unfolding_all exact rfl) ?_ | refine we_lenScr (by with_unfolding_all exact rfl) ?_ | refine we_cbK ?_) | refine we_int ?_ | refine we_bl ?_ | refine we_non ?_ | refine we_str ?_ | refine we_neg ?_ | refine we_not ?_ | refine we_and ?_ | refine we_or ?_ | refine we_if ?_ | refine we_tup ?_ | refine we_lst ?_ | refine we_call ?_ | refine we_mt (by with_unfolding_all exact rfl) ?_)
  | (with_reducible show WS _ _ _ _; with_reducible first | refine ws_seqA ?_ | refine ws_seqD ?_ | refine ws_asg (by with_unfolding_all exact rfl) ?_ | refine ws_asgG ?_ | refine ws_if ?_ | refine ws_ret ?_ | refine ws_drop ?_ | refine ws_next ?_ | refine ws_retN ?_)
  | (with_reducible show WT _ _ _; with_reducible first | refine wt_test ?_ | refine wt_B ?_ | refine wt_not ?_ | refine wt_and ?_ | refine wt_or ?_ | refine wt_yes ?_)
  | (with_reducible show WA _ _ _; with_reducible first | refine wa_nil ?_ | refine wa_cons (wq_of (we_var (by with_unfolding_all exact rfl) ?_)) | refine wa_slotU (by with_unfolding_all exact rfl) ?_ | refine wa_cons ?_)
  | (with_reducible show OpK _ _ _ _ _; with_reducible first | refine ok_plusI ?_ | refine ok_sub ?_ | refine ok_lt ?_ | refine ok_le ?_ | refine ok_gt ?_ | refine ok_ge ?_ | refine ok_eqI ?_ | refine ok_neI ?_ | refine ok_mod (by first | assumption | decide | omega) ?_ | refine ok_ixL (by with_unfolding_all exact rfl) ?_)
  | (with_reducible show CbK _ _ _ _; with_reducible first | refine ck_lenL ?_ | refine ck_lenT ?_ | refine ck_int ?_ | refine ck_intB ?_ | refine ck_max ?_ | refine ck_min ?_ | refine ck_list ?_)
  | with_reducible refine wq_of ?_
  | (with_reducible show WG _ _ _ _ _; with_reducible first | refine wg_name (by with_unfolding_all exact rfl) ?_ | refine wg_tup (by with_unfolding_all exact rfl) ?_ | refine wg_set (by with_unfolding_all exact rfl) ?_)
  | (with_reducible show WGs _ _ _ _ _; with_reducible first | refine wgs_cons ?_ | refine wgs_nil ?_)
  | with_reducible refine iteT ?_
  | with_reducible refine iteF ?_
  | with_reducible refine ⟨_, frz_per, ?_⟩
  | with_reducible refine ⟨_, frz_own, ?_⟩
  | refine ⟨_, rfl, ?_⟩
  | refine ⟨_, argD1, ?_⟩
  | refine ⟨_, argD2, ?_⟩
  | refine ⟨_, argD0, ?_⟩
  | refine ⟨_, argD3, ?_⟩
  | refine ⟨_, argD4, ?_⟩
  | refine ⟨_, _, rfl, rfl, rfl, ?_⟩
  | refine ⟨_, _, _, rfl, rfl, rfl, ?_⟩
  | refine ⟨(by simp only [List.length_cons, List.length_nil]; decide), ?_⟩
  | refine ⟨rfl, nd1, ?_⟩
  | refine ⟨rfl, nd0, ?_⟩)
local macro_rules | `(tactic| walk_at "go") => `(tactic| repeat walk_at "g1")
local macro_rules | `(tactic| walk_at "g2") => `(tactic| first
  | (with_reducible show WE _ _ _; with_reducible first | refine we_var (by with_unfolding_all exact rfl) ?_ | (show WE (tOp _ _ _) _ _; first | refine we_notN ?_ | refine we_ixS (by with_unfolding_all exact rfl) ?_ | refine we_ixScr (by with_unfolding_all exact rfl) ?_ | refine we_inS (by with_unfolding_all exact rfl) ?_ | refine we_notInS (by with_unfolding_all exact rfl) ?_ | refine we_eqS (by with_unfolding_all exact rfl) ?_ | refine we_neS (by with_unfolding_all exact rfl) ?_ | refine we_opK ?_) | (show WE (tCB _ _) _ _; first | refine we_isInt ?_ | refine we_isBl ?_ | refine we_isLst ?_ | refine we_isTup ?_ | refine we_lenO (by with_unfolding_all exact rfl) ?_ | refine we_lenS' (by with_unfolding_all exact rfl) ?_ | refine we_lenScr (by with_unfolding_all exact rfl) ?_ | refine we_cbK ?_) | refine we_chain ?_ | refine we_slice ?_ | refine we_int ?_ | refine we_bl ?_ | refine we_non ?_ | refine we_str ?_ | refine we_neg ?_ | refine we_not ?_ | refine we_and ?_ | refine we_or ?_ | refine we_if ?_ | refine we_tup ?_ | refine we_lst ?_ | refine we_call ?_ | refine we_mt (by with_unfolding_all exact rfl) ?_)
  | (with_reducible show WS _ _ _ _; with_reducible first | refine ws_seqA ?_ | refine ws_seqD ?_ | refine ws_asg (by with_unfolding_all exact rfl) ?_ | refine ws_asgG ?_ | refine ws_if ?_ | refine ws_ret ?_ | refine ws_drop ?_ | refine ws_next ?_ | refine ws_retN ?_)
  | (with_reducible show WT _ _ _; with_reducible first | refine wt_test ?_ | refine wt_B ?_ | refine wt_not ?_ | refine wt_and ?_ | refine wt_or ?_ | refine wt_yes ?_)
  | (with_reducible show WA _ _ _; with_reducible first | refine wa_nil ?_ | refine wa_cons (wq_of (we_var (by with_unfolding_all exact rfl) ?_)) | refine wa_slotU (by with_unfolding_all exact rfl) ?_ | refine wa_cons ?_)
  | (with_reducible show OpK _ _ _ _ _; with_reducible first | refine ok_isB ?_ | refine ok_notB ?_ | refine ok_plusI ?_ | refine ok_sub ?_ | refine ok_lt ?_ | refine ok_le ?_ | refine ok_gt ?_ | refine ok_ge ?_ | refine ok_eqI ?_ | refine ok_neI ?_ | refine ok_mod (by first | assumption | decide | omega) ?_ | refine ok_ixL (by with_unfolding_all exact rfl) ?_)
  | (with_reducible show CbK _ _ _ _; with_reducible first | refine ck_lenL ?_ | refine ck_lenT ?_ | refine ck_int ?_ | refine ck_intB ?_ | refine ck_max ?_ | refine ck_min ?_ | refine ck_list ?_)
  | with_reducible refine wq_of ?_
  | (with_reducible show WG _ _ _ _ _; with_reducible first | refine wg_name (by with_unfolding_all exact rfl) ?_ | refine wg_tup (by with_unfolding_all exact rfl) ?_ | refine wg_set (by with_unfolding_all exact rfl) ?_)
  | (with_reducible show WGs _ _ _ _ _; with_reducible first | refine wgs_cons ?_ | refine wgs_nil ?_)
  | (with_reducible show WO _ _ _; with_reducible first | refine wo_some ?_ | refine wo_none ?_)
  | refine ⟨_, argD5, ?_⟩
  | refine ⟨_, argD6, ?_⟩
  | refine ⟨_, argD7, ?_⟩
  | refine ⟨_, argD9, ?_⟩
  | with_reducible refine iteT ?_
  | with_reducible refine iteF ?_
  | with_reducible refine ⟨_, frz_per, ?_⟩
  | with_reducible refine ⟨_, frz_own, ?_⟩
  | refine ⟨_, rfl, ?_⟩
  | refine ⟨_, argD1, ?_⟩
  | refine ⟨_, argD2, ?_⟩
  | refine ⟨_, argD0, ?_⟩
  | refine ⟨_, argD3, ?_⟩
  | refine ⟨_, argD4, ?_⟩
  | refine ⟨_, _, rfl, rfl, rfl, ?_⟩
  | refine ⟨_, _, _, rfl, rfl, rfl, ?_⟩
  | refine ⟨(by simp only [List.length_cons, List.length_nil]; decide), ?_⟩
  | refine ⟨rfl, nd1, ?_⟩
  | refine ⟨rfl, nd0, ?_⟩)
local macro_rules | `(tactic| walk_at "w") => `(tactic| first
  | (with_reducible show WE _ _ _; with_reducible first | refine we_var (by with_unfolding_all exact rfl) ?_ | refine we_varF (by with_unfolding_all exact rfl) frz_own ?_ | (show WE (tOp _ _ _) _ _; first | refine we_isNd ?_ | refine we_notNd ?_ | refine we_notN ?_ | refine we_ixS (by with_unfolding_all exact rfl) ?_ | refine we_ixScr (by with_unfolding_all exact rfl) ?_ | refine we_inS (by with_unfolding_all exact rfl) ?_ | refine we_notInS (by with_unfolding_all exact rfl) ?_ | refine we_eqS (by with_unfolding_all exact rfl) ?_ | refine we_neS (by with_unfolding_all exact rfl) ?_ | refine we_opK ?_) | (show WE (tCB _ _) _ _; first | refine we_repr ?_ | refine we_isInt ?_ | refine we_isBl ?_ | refine we_isLst ?_ | refine we_isTup ?_ | refine we_lenO (by with_unfolding_all exact rfl) ?_ | refine we_lenS' (by with_unfolding_all exact rfl) ?_ | refine we_lenScr (by with_unfolding_all exact rfl) ?_ | refine we_cbK ?_) | refine we_dnew ?_ | refine we_lenSetI ?_ | refine we_revL ?_ | refine we_chain ?_ | refine we_slice ?_ | refine we_int ?_ | refine we_bl ?_ | refine we_non ?_ | refine we_str ?_ | refine we_neg ?_ | refine we_not ?_ | refine we_and ?_ | refine we_or ?_ | refine we_if ?_ | refine we_tup ?_ | refine we_lst ?_ | refine we_call ?_ | refine we_mt (by with_unfolding_all exact rfl) ?_)
  | (with_reducible show WS _ _ _ _; with_reducible first | refine ws_seqI ?_ | refine ws_seqA ?_ | refine ws_seqD ?_ | refine ws_asg (by with_unfolding_all exact rfl) ?_ | refine ws_asgG ?_ | refine ws_if ?_ | refine ws_ret ?_ | refine ws_drop ?_ | refine ws_next ?_ | refine ws_retN ?_)
  | (with_reducible show WT _ _ _; with_reducible first | refine wt_truL ?_ | refine wt_test ?_ | refine wt_B ?_ | refine wt_not ?_ | refine wt_and ?_ | refine wt_or ?_ | refine wt_yes ?_)
  | (with_reducible show WA _ _ _; with_reducible first | refine wa_nil ?_ | refine wa_cons (wq_of (we_var (by with_unfolding_all exact rfl) ?_)) | refine wa_slotU (by with_unfolding_all exact rfl) ?_ | refine wa_cons ?_)
  | (with_reducible show OpK _ _ _ _ _; with_reducible first | refine ok_neR ?_ | refine ok_eqR ?_ | refine ok_isB ?_ | refine ok_notB ?_ | refine ok_plusI ?_ | refine ok_sub ?_ | refine ok_lt ?_ | refine ok_le ?_ | refine ok_gt ?_ | refine ok_ge ?_ | refine ok_eqI ?_ | refine ok_neI ?_ | refine ok_mod (by first | assumption | decide | omega) ?_ | refine ok_ixL (by with_unfolding_all exact rfl) ?_)
  | (with_reducible show CbK _ _ _ _; with_reducible first | refine ck_tuple ?_ | refine ck_allF ?_ | refine ck_anyF ?_ | refine ck_abs ?_ | refine ck_sumI ?_ | refine ck_lenL ?_ | refine ck_lenT ?_ | refine ck_int ?_ | refine ck_intB ?_ | refine ck_max ?_ | refine ck_min ?_ | refine ck_list ?_)
  | with_reducible refine wq_of ?_
  | (with_reducible show WG _ _ _ _ _; with_reducible first | refine wg_name (by with_unfolding_all exact rfl) ?_ | refine wg_tup (by with_unfolding_all exact rfl) ?_ | refine wg_set (by with_unfolding_all exact rfl) ?_)
  | (with_reducible show WGs _ _ _ _ _; with_reducible first | refine wgs_cons ?_ | refine wgs_nil ?_)
  | (with_reducible show WO _ _ _; with_reducible first | refine wo_some ?_ | refine wo_none ?_)
  | refine ⟨_, argD5, ?_⟩
  | refine ⟨_, argD6, ?_⟩
  | refine ⟨_, argD7, ?_⟩
  | refine ⟨_, argD9, ?_⟩
  | with_reducible refine iteT ?_
  | with_reducible refine iteF ?_
  | with_reducible refine ⟨_, frz_per, ?_⟩
  | with_reducible refine ⟨_, frz_own, ?_⟩
  | refine ⟨_, rfl, ?_⟩
  | refine ⟨_, argD1, ?_⟩
  | refine ⟨_, argD2, ?_⟩
  | refine ⟨_, argD0, ?_⟩
  | refine ⟨_, argD3, ?_⟩
  | refine ⟨_, argD4, ?_⟩
  | refine ⟨_, _, rfl, rfl, rfl, ?_⟩
  | refine ⟨_, _, _, rfl, rfl, rfl, ?_⟩
  | refine ⟨(by simp only [List.length_cons, List.length_nil]; decide), ?_⟩
  | refine ⟨rfl, nd1, ?_⟩
  | refine ⟨rfl, nd0, ?_⟩
  | refine ⟨_, argD8, ?_⟩
  | refine ⟨_, argD10, ?_⟩)
local macro_rules | `(tactic| walk_at "v") => `(tactic| first
  | (with_reducible show WE _ _ _; with_reducible first | refine we_var (by with_unfolding_all exact rfl) ?_ | refine we_varF (by with_unfolding_all exact rfl) frz_own ?_ | (show WE (tOp _ _ _) _ _; first | refine we_isNd ?_ | refine we_notNd ?_ | refine we_notN ?_ | refine we_ixS (by with_unfolding_all exact rfl) ?_ | refine we_ixScr (by with_unfolding_all exact rfl) ?_ | refine we_inS (by with_unfolding_all exact rfl) ?_ | refine we_notInS (by with_unfolding_all exact rfl) ?_ | refine we_eqS (by with_unfolding_all exact rfl) ?_ | refine we_neS (by with_unfolding_all exact rfl) ?_ | refine we_opK ?_) | (show WE (tCB _ _) _ _; first | refine we_repr ?_ | refine we_lenWeb (by with_unfolding_all exact rfl) (by assumption) ?_ | refine we_isInt ?_ | refine we_isBl ?_ | refine we_isLst ?_ | refine we_isTup ?_ | refine we_lenO (by with_unfolding_all exact rfl) ?_ | refine we_lenS' (by with_unfolding_all exact rfl) ?_ | refine we_lenScr (by with_unfolding_all exact rfl) ?_ | refine we_cbK ?_) | refine we_dnew ?_ | refine we_lenSetI ?_ | refine we_revL ?_ | refine we_nbWeb (by with_unfolding_all exact rfl) (by assumption) (by assumption) ?_ | refine we_tiesWeb (by with_unfolding_all exact rfl) ?_ | refine we_chain ?_ | refine we_slice ?_ | refine we_int ?_ | refine we_bl ?_ | refine we_non ?_ | refine we_str ?_ | refine we_neg ?_ | refine we_not ?_ | refine we_and ?_ | refine we_or ?_ | refine we_if ?_ | refine we_tup ?_ | refine we_lst ?_ | refine we_call ?_ | refine we_mt (by with_unfolding_all exact rfl) ?_)
  | (with_reducible show WS _ _ _ _; with_reducible first | refine ws_seqI ?_ | refine ws_seqA ?_ | refine ws_seqD ?_ | refine ws_asg (by with_unfolding_all exact rfl) ?_ | refine ws_asgG ?_ | refine ws_if ?_ | refine ws_ret ?_ | refine ws_drop ?_ | refine ws_next ?_ | refine ws_retN ?_)
  | (with_reducible show WT _ _ _; with_reducible first | refine wt_truL ?_ | refine wt_test ?_ | refine wt_B ?_ | refine wt_not ?_ | refine wt_and ?_ | refine wt_or ?_ | refine wt_yes ?_)
  | (with_reducible show WA _ _ _; with_reducible first | refine wa_nil ?_ | refine wa_cons (wq_of (we_var (by with_unfolding_all exact rfl) ?_)) | refine wa_slotU (by with_unfolding_all exact rfl) ?_ | refine wa_cons ?_)
  | (with_reducible show OpK _ _ _ _ _; with_reducible first | refine ok_neR ?_ | refine ok_eqR ?_ | refine ok_isB ?_ | refine ok_notB ?_ | refine ok_plusI ?_ | refine ok_sub ?_ | refine ok_lt ?_ | refine ok_le ?_ | refine ok_gt ?_ | refine ok_ge ?_ | refine ok_eqI ?_ | refine ok_neI ?_ | refine ok_mod (by first | assumption | decide | omega) ?_ | refine ok_ixL (by with_unfolding_all exact rfl) ?_)
  | (with_reducible show CbK _ _ _ _; with_reducible first | refine ck_tuple ?_ | refine ck_allF ?_ | refine ck_anyF ?_ | refine ck_abs ?_ | refine ck_sumI ?_ | refine ck_lenL ?_ | refine ck_lenT ?_ | refine ck_int ?_ | refine ck_intB ?_ | refine ck_max ?_ | refine ck_min ?_ | refine ck_list ?_)
  | with_reducible refine wq_of ?_
  | (with_reducible show WG _ _ _ _ _; with_reducible first | refine wg_name (by with_unfolding_all exact rfl) ?_ | refine wg_tup (by with_unfolding_all exact rfl) ?_ | refine wg_set (by with_unfolding_all exact rfl) ?_)
  | (with_reducible show WGs _ _ _ _ _; with_reducible first | refine wgs_cons ?_ | refine wgs_nil ?_)
  | (with_reducible show WO _ _ _; with_reducible first | refine wo_some ?_ | refine wo_none ?_)
  | refine ⟨_, argD5, ?_⟩
  | refine ⟨_, argD6, ?_⟩
  | refine ⟨_, argD7, ?_⟩
  | refine ⟨_, argD9, ?_⟩
  | with_reducible refine iteT ?_
  | with_reducible refine iteF ?_
  | with_reducible refine ⟨_, frz_per, ?_⟩
  | with_reducible refine ⟨_, frz_own, ?_⟩
  | refine ⟨_, rfl, ?_⟩
  | refine ⟨_, argD1, ?_⟩
  | refine ⟨_, argD2, ?_⟩
  | refine ⟨_, argD0, ?_⟩
  | refine ⟨_, argD3, ?_⟩
  | refine ⟨_, argD4, ?_⟩
  | refine ⟨_, _, rfl, rfl, rfl, ?_⟩
  | refine ⟨_, _, _, rfl, rfl, rfl, ?_⟩
  | refine ⟨(by simp only [List.length_cons, List.length_nil]; decide), ?_⟩
  | refine ⟨rfl, nd1, ?_⟩
  | refine ⟨rfl, nd0, ?_⟩
  | refine ⟨_, argD8, ?_⟩
  | refine ⟨_, argD10, ?_⟩)
local macro_rules | `(tactic| walk_at "p") => `(tactic| refine ⟨_, _, rfl, (by omega), (by first | decide | omega), (by first | decide | omega), ?_⟩)
local macro_rules | `(tactic| walk_at "n") => `(tactic| try dsimp only [back, List.set_cons_zero, List.set_cons_succ, List.map_cons, List.map_nil, List.cons_append, List.nil_append])
local macro_rules | `(tactic| walk_at "q") => `(tactic| first | with_reducible refine ws_seqP (ws_par (by with_unfolding_all exact rfl) (by with_unfolding_all exact rfl) ?_) | refine ⟨_, _, rfl, ?_⟩ | walk_at "v")
end G

namespace G
open PySem L2
local macro_rules | `(tactic| walk_at "g1") => `(tactic| first
  | (with_reducible show WE _ _ _; with_reducible first | refine we_var (by with_unfolding_all exact rfl) ?_ | (show WE (tOp _ _ _) _ _; first | refine we_ixS (by with_unfolding_all exact rfl) ?_ | refine we_ixScr (by with_unfolding_all exact rfl) ?_ | refine we_inS (by with_unfolding_all exact rfl) ?_ | refine we_notInS (by with_unfolding_all exact rfl) ?_ | refine we_eqS (by with_unfolding_all exact rfl) ?_ | refine we_neS (by with_unfolding_all exact rfl) ?_ | refine we_opK ?_) | (show WE (tCB _ _) _ _; first | refine we_lenS' (by with_unfolding_all exact rfl) ?_ | refine we_lenScr (by with_unfolding_all exact rfl) ?_ | refine we_cbK ?_) | refine we_int ?_ | refine we_bl ?_ | refine we_non ?_ | refine we_str ?_ | refine we_neg ?_ | refine we_not ?_ | refine we_and ?_ | refine we_or ?_ | refine we_if ?_ | refine we_tup ?_ | refine we_lst ?_ | refine we_call ?_ | refine we_mt (by with_unfolding_all exact rfl) ?_)
  | (with_reducible show WS _ _ _ _; with_reducible first | refine ws_seqA ?_ | refine ws_seqD ?_ | refine ws_asg (by with_unfolding_all exact rfl) ?_ | refine ws_asgG ?_ | refine ws_if ?_ | refine ws_ret ?_ | refine ws_drop ?_ | refine ws_next ?_ | refine ws_retN ?_)
  | (with_reducible show WT _ _ _; with_reducible first | refine wt_test ?_ | refine wt_B ?_ | refine wt_not ?_ | refine wt_and ?_ | refine wt_or ?_ | refine wt_yes ?_)
  | (with_reducible show WA _ _ _; with_reducible first | refine wa_nil ?_ | refine wa_cons (wq_of (we_var (by with_unfolding_all exact rfl) ?_)) | refine wa_slotU (by with_unfolding_all exact rfl) ?_ | refine wa_cons ?_)
  | (with_reducible show OpK _ _ _ _ _; with_reducible first | refine ok_plusI ?_ | refine ok_sub ?_ | refine ok_lt ?_ | refine ok_le ?_ | refine ok_gt ?_ | refine ok_ge ?_ | refine ok_eqI ?_ | refine ok_neI ?_ | refine ok_mod (by first | assumption | decide | omega) ?_ | refine ok_ixL (by with_unfolding_all exact rfl) ?_)
  | (with_reducible show CbK _ _ _ _; with_reducible first | refine ck_lenL ?_ | refine ck_lenT ?_ | refine ck_int ?_ | refine ck_intB ?_ | refine ck_max ?_ | refine ck_min ?_ | refine ck_list ?_)
  | with_reducible refine wq_of ?_
  | (with_reducible show WG _ _ _ _ _; with_reducible first | refine wg_name (by with_unfolding_all exact rfl) ?_ | refine wg_tup (by with_unfolding_all exact rfl) ?_ | refine wg_set (by with_unfolding_all exact rfl) ?_)
  | (with_reducible show WGs _ _ _ _ _; with_reducible first | refine wgs_cons ?_ | refine wgs_nil ?_)
  | with_reducible refine iteT ?_
  | with_reducible refine iteF ?_
  | with_reducible refine ⟨_, frz_per, ?_⟩
  | with_reducible refine ⟨_, frz_own, ?_⟩
  | refine ⟨_, rfl, ?_⟩
  | refine ⟨_, argD1, ?_⟩
  | refine ⟨_, argD2, ?_⟩
  | refine ⟨_, argD0, ?_⟩
  | refine ⟨_, argD3, ?_⟩
  | refine ⟨_, argD4, ?_⟩
  | refine ⟨_, _, rfl, rfl, rfl, ?_⟩
  | refine ⟨_, _, _, rfl, rfl, rfl, ?_⟩
  | refine ⟨(by simp only [List.length_cons, List.length_nil]; decide), ?_⟩
  | refine ⟨rfl, nd1, ?_⟩
  | refine ⟨rfl, nd0, ?_⟩)
local macro_rules | `(tactic| walk_at "go") => `(tactic| repeat walk_at "g1")
local macro_rules | `(tactic| walk_at "g2") => `(tactic| first
  | (with_reducible show WE _ _ _; with_reducible first | refine we_var (by with_unfolding_all exact rfl) ?_ | (show WE (tOp _ _ _) _ _; first | refine we_notN ?_ | refine we_ixS (by with_unfolding_all exact rfl) ?_ | refine we_ixScr (by with_unfolding_all exact rfl) ?_ | refine we_inS (by with_unfolding_all exact rfl) ?_ | refine we_notInS (by with_unfolding_all exact rfl) ?_ | refine we_eqS (by with_unfolding_all exact rfl) ?_ | refine we_neS (by with_unfolding_all exact rfl) ?_ | refine we_opK ?_) | (show WE (tCB _ _) _ _; first | refine we_isInt ?_ | refine we_isBl ?_ | refine we_isLst ?_ | refine we_isTup ?_ | refine we_lenO (by with_unfolding_all exact rfl) ?_ | refine we_lenS' (by with_unfolding_all exact rfl) ?_ | refine we_lenScr (by with_unfolding_all exact rfl) ?_ | refine we_cbK ?_) | refine we_chain ?_ | refine we_slice ?_ | refine we_int ?_ | refine we_bl ?_ | refine we_non ?_ | refine we_str ?_ | refine we_neg ?_ | refine we_not ?_ | refine we_and ?_ | refine we_or ?_ | refine we_if ?_ | refine we_tup ?_ | refine we_lst ?_ | refine we_call ?_ | refine we_mt (by with_unfolding_all exact rfl) ?_)
  | (with_reducible show WS _ _ _ _; with_reducible first | refine ws_seqA ?_ | refine ws_seqD ?_ | refine ws_asg (by with_unfolding_all exact rfl) ?_ | refine ws_asgG ?_ | refine ws_if ?_ | refine ws_ret ?_ | refine ws_drop ?_ | refine ws_next ?_ | refine ws_retN ?_)
  | (with_reducible show WT _ _ _; with_reducible first | refine wt_test ?_ | refine wt_B ?_ | refine wt_not ?_ | refine wt_and ?_ | refine wt_or ?_ | refine wt_yes ?_)
  | (with_reducible show WA _ _ _; with_reducible first | refine wa_nil ?_ | refine wa_cons (wq_of (we_var (by with_unfolding_all exact rfl) ?_)) | refine wa_slotU (by with_unfolding_all exact rfl) ?_ | refine wa_cons ?_)
  | (with_reducible show OpK _ _ _ _ _; with_reducible first | refine ok_isB ?_ | refine ok_notB ?_ | refine ok_plusI ?_ | refine ok_sub ?_ | refine ok_lt ?_ | refine ok_le ?_ | refine ok_gt ?_ | refine ok_ge ?_ | refine ok_eqI ?_ | refine ok_neI ?_ | refine ok_mod (by first | assumption | decide | omega) ?_ | refine ok_ixL (by with_unfolding_all exact rfl) ?_)
  | (with_reducible show CbK _ _ _ _; with_reducible first | refine ck_lenL ?_ | refine ck_lenT ?_ | refine ck_int ?_ | refine ck_intB ?_ | refine ck_max ?_ | refine ck_min ?_ | refine ck_list ?_)
  | with_reducible refine wq_of ?_
  | (with_reducible show WG _ _ _ _ _; with_reducible first | refine wg_name (by with_unfolding_all exact rfl) ?_ | refine wg_tup (by with_unfolding_all exact rfl) ?_ | refine wg_set (by with_unfolding_all exact rfl) ?_)
  | (with_reducible show WGs _ _ _ _ _; with_reducible first | refine wgs_cons ?_ | refine wgs_nil ?_)
  | (with_reducible show WO _ _ _; with_reducible first | refine wo_some ?_ | refine wo_none ?_)
  | refine ⟨_, argD5, ?_⟩
  | refine ⟨_, argD6, ?_⟩
  | refine ⟨_, argD7, ?_⟩
  | refine ⟨_, argD9, ?_⟩
  | with_reducible refine iteT ?_
  | with_reducible refine iteF ?_
  | with_reducible refine ⟨_, frz_per, ?_⟩
  | with_reducible refine ⟨_, frz_own, ?_⟩
  | refine ⟨_, rfl, ?_⟩
  | refine ⟨_, argD1, ?_⟩
  | refine ⟨_, argD2, ?_⟩
  | refine ⟨_, argD0, ?_⟩
  | refine ⟨_, argD3, ?_⟩
  | refine ⟨_, argD4, ?_⟩
  | refine ⟨_, _, rfl, rfl, rfl, ?_⟩
  | refine ⟨_, _, _, rfl, rfl, rfl, ?_⟩
  | refine ⟨(by simp only [List.length_cons, List.length_nil]; decide), ?_⟩
  | refine ⟨rfl, nd1, ?_⟩
  | refine ⟨rfl, nd0, ?_⟩)
local macro_rules | `(tactic| walk_at "w") => `(tactic| first
  | (with_reducible show WE _ _ _; with_reducible first | refine we_var (by with_unfolding_all exact rfl) ?_ | refine we_varF (by with_unfolding_all exact rfl) frz_own ?_ | (show WE (tOp _ _ _) _ _; first | refine we_isNd ?_ | refine we_notNd ?_ | refine we_notN ?_ | refine we_ixS (by with_unfolding_all exact rfl) ?_ | refine we_ixScr (by with_unfolding_all exact rfl) ?_ | refine we_inS (by with_unfolding_all exact rfl) ?_ | refine we_notInS (by with_unfolding_all exact rfl) ?_ | refine we_eqS (by with_unfolding_all exact rfl) ?_ | refine we_neS (by with_unfolding_all exact rfl) ?_ | refine we_opK ?_) | (show WE (tCB _ _) _ _; first | refine we_repr ?_ | refine we_isInt ?_ | refine we_isBl ?_ | refine we_isLst ?_ | refine we_isTup ?_ | refine we_lenO (by with_unfolding_all exact rfl) ?_ | refine we_lenS' (by with_unfolding_all exact rfl) ?_ | refine we_lenScr (by with_unfolding_all exact rfl) ?_ | refine we_cbK ?_) | refine we_dnew ?_ | refine we_lenSetI ?_ | refine we_revL ?_ | refine we_chain ?_ | refine we_slice ?_ | refine we_int ?_ | refine we_bl ?_ | refine we_non ?_ | refine we_str ?_ | refine we_neg ?_ | refine we_not ?_ | refine we_and ?_ | refine we_or ?_ | refine we_if ?_ | refine we_tup ?_ | refine we_lst ?_ | refine we_call ?_ | refine we_mt (by with_unfolding_all exact rfl) ?_)
  | (with_reducible show WS _ _ _ _; with_reducible first | refine ws_seqI ?_ | refine ws_seqA ?_ | refine ws_seqD ?_ | refine ws_asg (by with_unfolding_all exact rfl) ?_ | refine ws_asgG ?_ | refine ws_if ?_ | refine ws_ret ?_ | refine ws_drop ?_ | refine ws_next ?_ | refine ws_retN ?_)
  | (with_reducible show WT _ _ _; with_reducible first | refine wt_truL ?_ | refine wt_test ?_ | refine wt_B ?_ | refine wt_not ?_ | refine wt_and ?_ | refine wt_or ?_ | refine wt_yes ?_)
  | (with_reducible show WA _ _ _; with_reducible first | refine wa_nil ?_ | refine wa_cons (wq_of (we_var (by with_unfolding_all exact rfl) ?_)) | refine wa_slotU (by with_unfolding_all exact rfl) ?_ | refine wa_cons ?_)
  | (with_reducible show OpK _ _ _ _ _; with_reducible first | refine ok_neR ?_ | refine ok_eqR ?_ | refine ok_isB ?_ | refine ok_notB ?_ | refine ok_plusI ?_ | refine ok_sub ?_ | refine ok_lt ?_ | refine ok_le ?_ | refine ok_gt ?_ | refine ok_ge ?_ | refine ok_eqI ?_ | refine ok_neI ?_ | refine ok_mod (by first | assumption | decide | omega) ?_ | refine ok_ixL (by with_unfolding_all exact rfl) ?_)
  | (with_reducible show CbK _ _ _ _; with_reducible first | refine ck_tuple ?_ | refine ck_allF ?_ | refine ck_anyF ?_ | refine ck_abs ?_ | refine ck_sumI ?_ | refine ck_lenL ?_ | refine ck_lenT ?_ | refine ck_int ?_ | refine ck_intB ?_ | refine ck_max ?_ | refine ck_min ?_ | refine ck_list ?_)
  | with_reducible refine wq_of ?_
  | (with_reducible show WG _ _ _ _ _; with_reducible first | refine wg_name (by with_unfolding_all exact rfl) ?_ | refine wg_tup (by with_unfolding_all exact rfl) ?_ | refine wg_set (by with_unfolding_all exact rfl) ?_)
  | (with_reducible show WGs _ _ _ _ _; with_reducible first | refine wgs_cons ?_ | refine wgs_nil ?_)
  | (with_reducible show WO _ _ _; with_reducible first | refine wo_some ?_ | refine wo_none ?_)
  | refine ⟨_, argD5, ?_⟩
  | refine ⟨_, argD6, ?_⟩
  | refine ⟨_, argD7, ?_⟩
  | refine ⟨_, argD9, ?_⟩
  | with_reducible refine iteT ?_
  | with_reducible refine iteF ?_
  | with_reducible refine ⟨_, frz_per, ?_⟩
  | with_reducible refine ⟨_, frz_own, ?_⟩
  | refine ⟨_, rfl, ?_⟩
  | refine ⟨_, argD1, ?_⟩
  | refine ⟨_, argD2, ?_⟩
  | refine ⟨_, argD0, ?_⟩
  | refine ⟨_, argD3, ?_⟩
  | refine ⟨_, argD4, ?_⟩
  | refine ⟨_, _, rfl, rfl, rfl, ?_⟩
  | refine ⟨_, _, _, rfl, rfl, rfl, ?_⟩
  | refine ⟨(by simp only [List.length_cons, List.length_nil]; decide), ?_⟩
  | refine ⟨rfl, nd1, ?_⟩
  | refine ⟨rfl, nd0, ?_⟩
  | refine ⟨_, argD8, ?_⟩
  | refine ⟨_, argD10, ?_⟩)
local macro_rules | `(tactic| walk_at "v") => `(tactic| first
  | (with_reducible show WE _ _ _; with_reducible first | refine we_var (by with_unfolding_all exact rfl) ?_ | refine we_varF (by with_unfolding_all exact rfl) frz_own ?_ | (show WE (tOp _ _ _) _ _; first | refine we_isNd ?_ | refine we_notNd ?_ | refine we_notN ?_ | refine we_ixS (by with_unfolding_all exact rfl) ?_ | refine we_ixScr (by with_unfolding_all exact rfl) ?_ | refine we_inS (by with_unfolding_all exact rfl) ?_ | refine we_notInS (by with_unfolding_all exact rfl) ?_ | refine we_eqS (by with_unfolding_all exact rfl) ?_ | refine we_neS (by with_unfolding_all exact rfl) ?_ | refine we_opK ?_) | (show WE (tCB _ _) _ _; first | refine we_repr ?_ | refine we_lenWeb (by with_unfolding_all exact rfl) (by assumption) ?_ | refine we_isInt ?_ | refine we_isBl ?_ | refine we_isLst ?_ | refine we_isTup ?_ | refine we_lenO (by with_unfolding_all exact rfl) ?_ | refine we_lenS' (by with_unfolding_all exact rfl) ?_ | refine we_lenScr (by with_unfolding_all exact rfl) ?_ | refine we_cbK ?_) | refine we_dnew ?_ | refine we_lenSetI ?_ | refine we_revL ?_ | refine we_nbWeb (by with_unfolding_all exact rfl) (by assumption) (by assumption) ?_ | refine we_tiesWeb (by with_unfolding_all exact rfl) ?_ | refine we_chain ?_ | refine we_slice ?_ | refine we_int ?_ | refine we_bl ?_ | refine we_non ?_ | refine we_str ?_ | refine we_neg ?_ | refine we_not ?_ | refine we_and ?_ | refine we_or ?_ | refine we_if ?_ | refine we_tup ?_ | refine we_lst ?_ | refine we_call ?_ | refine we_mt (by with_unfolding_all exact rfl) ?_)
  | (with_reducible show WS _ _ _ _; with_reducible first | refine ws_seqI ?_ | refine ws_seqA ?_ | refine ws_seqD ?_ | refine ws_asg (by with_unfolding_all exact rfl) ?_ | refine ws_asgG ?_ | refine ws_if ?_ | refine ws_ret ?_ | refine ws_drop ?_ | refine ws_next ?_ | refine ws_retN ?_)
  | (with_reducible show WT _ _ _; with_reducible first | refine wt_truL ?_ | refine wt_test ?_ | refine wt_B ?_ | refine wt_not ?_ | refine wt_and ?_ | refine wt_or ?_ | refine wt_yes ?_)
  | (with_reducible show WA _ _ _; with_reducible first | refine wa_nil ?_ | refine wa_cons (wq_of (we_var (by with_unfolding_all exact rfl) ?_)) | refine wa_slotU (by with_unfolding_all exact rfl) ?_ | refine wa_cons ?_)
  | (with_reducible show OpK _ _ _ _ _; with_reducible first | refine ok_neR ?_ | refine ok_eqR ?_ | refine ok_isB ?_ | refine ok_notB ?_ | refine ok_plusI ?_ | refine ok_sub ?_ | refine ok_lt ?_ | refine ok_le ?_ | refine ok_gt ?_ | refine ok_ge ?_ | refine ok_eqI ?_ | refine ok_neI ?_ | refine ok_mod (by first | assumption | decide | omega) ?_ | refine ok_ixL (by with_unfolding_all exact rfl) ?_)
  | (with_reducible show CbK _ _ _ _; with_reducible first | refine ck_tuple ?_ | refine ck_allF ?_ | refine ck_anyF ?_ | refine ck_abs ?_ | refine ck_sumI ?_ | refine ck_lenL ?_ | refine ck_lenT ?_ | refine ck_int ?_ | refine ck_intB ?_ | refine ck_max ?_ | refine ck_min ?_ | refine ck_list ?_)
  | with_reducible refine wq_of ?_
  | (with_reducible show WG _ _ _ _ _; with_reducible first | refine wg_name (by with_unfolding_all exact rfl) ?_ | refine wg_tup (by with_unfolding_all exact rfl) ?_ | refine wg_set (by with_unfolding_all exact rfl) ?_)
  | (with_reducible show WGs _ _ _ _ _; with_reducible first | refine wgs_cons ?_ | refine wgs_nil ?_)
  | (with_reducible show WO _ _ _; with_reducible first | refine wo_some ?_ | refine wo_none ?_)
  | refine ⟨_, argD5, ?_⟩
  | refine ⟨_, argD6, ?_⟩
  | refine ⟨_, argD7, ?_⟩
  | refine ⟨_, argD9, ?_⟩
  | with_reducible refine iteT ?_
  | with_reducible refine iteF ?_
  | with_reducible refine ⟨_, frz_per, ?_⟩
  | with_reducible refine ⟨_, frz_own, ?_⟩
  | refine ⟨_, rfl, ?_⟩
  | refine ⟨_, argD1, ?_⟩
  | refine ⟨_, argD2, ?_⟩
  | refine ⟨_, argD0, ?_⟩
  | refine ⟨_, argD3, ?_⟩
  | refine ⟨_, argD4, ?_⟩
  | refine ⟨_, _, rfl, rfl, rfl, ?_⟩
  | refine ⟨_, _, _, rfl, rfl, rfl, ?_⟩
  | refine ⟨(by simp only [List.length_cons, List.length_nil]; decide), ?_⟩
  | refine ⟨rfl, nd1, ?_⟩
  | refine ⟨rfl, nd0, ?_⟩
  | refine ⟨_, argD8, ?_⟩
  | refine ⟨_, argD10, ?_⟩)
local macro_rules | `(tactic| walk_at "p") => `(tactic| refine ⟨_, _, rfl, (by omega), (by first | decide | omega), (by first | decide | omega), ?_⟩)
local macro_rules | `(tactic| walk_at "n") => `(tactic| try dsimp only [back, List.set_cons_zero, List.set_cons_succ, List.map_cons, List.map_nil, List.cons_append, List.nil_append])
local macro_rules | `(tactic| walk_at "q") => `(tactic| first | with_reducible refine ws_seqP (ws_par (by with_unfolding_all exact rfl) (by with_unfolding_all exact rfl) ?_) | refine ⟨_, _, rfl, ?_⟩ | walk_at "v")
local macro_rules | `(tactic| walk_at "j") => `(tactic| first
  | (with_reducible show WA _ _ _; with_reducible refine wa_slotJ (by with_unfolding_all exact rfl) ?_)
  | walk_at "v")
namespace J
end J
end G

namespace G
open PySem L2
local macro_rules | `(tactic| walk_at "g1") => `(tactic| first
  | (with_reducible show WE _ _ _; with_reducible first | refine we_var (by with_unfolding_all exact rfl) ?_ | (show WE (tOp _ _ _) _ _; first | refine we_ixS (by with_unfolding_all exact rfl) ?_ | refine we_ixScr (by with_unfolding_all exact rfl) ?_ | refine we_inS (by with_unfolding_all exact rfl) ?_ | refine we_notInS (by with_unfolding_all exact rfl) ?_ | refine we_eqS (by with_unfolding_all exact rfl) ?_ | refine we_neS (by with_unfolding_all exact rfl) ?_ | refine we_opK ?_) | (show WE (tCB _ _) _ _; first | refine we_lenS' (by with_unfolding_all exact rfl) ?_ | refine we_lenScr (by with_unfolding_all exact rfl) ?_ | refine we_cbK ?_) | refine we_int ?_ | refine we_bl ?_ | refine we_non ?_ | refine we_str ?_ | refine we_neg ?_ | refine we_not ?_ | refine we_and ?_ | refine we_or ?_ | refine we_if ?_ | refine we_tup ?_ | refine we_lst ?_ | refine we_call ?_ | refine we_mt (by with_unfolding_all exact rfl) ?_)
  | (with_reducible show WS _ _ _ _; with_reducible first | refine ws_seqA ?_ | refine ws_seqD ?_ | refine ws_asg (by with_unfolding_all exact rfl) ?_ | refine ws_asgG ?_ | refine ws_if ?_ | refine ws_ret ?_ | refine ws_drop ?_ | refine ws_next ?_ | refine ws_retN ?_)
  | (with_reducible show WT _ _ _; with_reducible first | refine wt_test ?_ | refine wt_B ?_ | refine wt_not ?_ | refine wt_and ?_ | refine wt_or ?_ | refine wt_yes ?_)
  | (with_reducible show WA _ _ _; with_reducible first | refine wa_nil ?_ | refine wa_cons (wq_of (we_var (by with_unfolding_all exact rfl) ?_)) | refine wa_slotU (by with_unfolding_all exact rfl) ?_ | refine wa_cons ?_)
  | (with_reducible show OpK _ _ _ _ _; with_reducible first | refine ok_plusI ?_ | refine ok_sub ?_ | refine ok_lt ?_ | refine ok_le ?_ | refine ok_gt ?_ | refine ok_ge ?_ | refine ok_eqI ?_ | refine ok_neI ?_ | refine ok_mod (by first | assumption | decide | omega) ?_ | refine ok_ixL (by with_unfolding_all exact rfl) ?_)
  | (with_reducible show CbK _ _ _ _; with_reducible first | refine ck_lenL ?_ | refine ck_lenT ?_ | refine ck_int ?_ | refine ck_intB ?_ | refine ck_max ?_ | refine ck_min ?_ | refine ck_list ?_)
  | with_reducible refine wq_of ?_
  | (with_reducible show WG _ _ _ _ _; with_reducible first | refine wg_name (by with_unfolding_all exact rfl) ?_ | refine wg_tup (by with_unfolding_all exact rfl) ?_ | refine wg_set (by with_unfolding_all exact rfl) ?_)
  | (with_reducible show WGs _ _ _ _ _; with_reducible first | refine wgs_cons ?_ | refine wgs_nil ?_)
  | with_reducible refine iteT ?_
  | with_reducible refine iteF ?_
  | with_reducible refine ⟨_, frz_per, ?_⟩
  | with_reducible refine ⟨_, frz_own, ?_⟩
  | refine ⟨_, rfl, ?_⟩
  | refine ⟨_, argD1, ?_⟩
  | refine ⟨_, argD2, ?_⟩
  | refine ⟨_, argD0, ?_⟩
  | refine ⟨_, argD3, ?_⟩
  | refine ⟨_, argD4, ?_⟩
  | refine ⟨_, _, rfl, rfl, rfl, ?_⟩
  | refine ⟨_, _, _, rfl, rfl, rfl, ?_⟩
  | refine ⟨(by simp only [List.length_cons, List.length_nil]; decide), ?_⟩
  | refine ⟨rfl, nd1, ?_⟩
  | refine ⟨rfl, nd0, ?_⟩)
local macro_rules | `(tactic| walk_at "go") => `(tactic| repeat walk_at "g1")
local macro_rules | `(tactic| walk_at "g2") => `(tactic| first
  | (with_reducible show WE _ _ _; with_reducible first | refine we_var (by with_unfolding_all exact rfl) ?_ | (show WE (tOp _ _ _) _ _; first | refine we_notN ?_ | refine we_ixS (by with_unfolding_all exact rfl) ?_ | refine we_ixScr (by with_unfolding_all exact rfl) ?_ | refine we_inS (by with_unfolding_all exact rfl) ?_ | refine we_notInS (by with_unfolding_all exact rfl) ?_ | refine we_eqS (by with_unfolding_all exact rfl) ?_ | refine we_neS (by with_unfolding_all exact rfl) ?_ | refine we_opK ?_) | (show WE (tCB _ _) _ _; first | refine we_isInt ?_ | refine we_isBl ?_ | refine we_isLst ?_ | refine we_isTup ?_ | refine we_lenO (by with_unfolding_all exact rfl) ?_ | refine we_lenS' (by with_unfolding_all exact rfl) ?_ | refine we_lenScr (by with_unfolding_all exact rfl) ?_ | refine we_cbK ?_) | refine we_chain ?_ | refine we_slice ?_ | refine we_int ?_ | refine we_bl ?_ | refine we_non ?_ | refine we_str ?_ | refine we_neg ?_ | refine we_not ?_ | refine we_and ?_ | refine we_or ?_ | refine we_if ?_ | refine we_tup ?_ | refine we_lst ?_ | refine we_call ?_ | refine we_mt (by with_unfolding_all exact rfl) ?_)
  | (with_reducible show WS _ _ _ _; with_reducible first | refine ws_seqA ?_ | refine ws_seqD ?_ | refine ws_asg (by with_unfolding_all exact rfl) ?_ | refine ws_asgG ?_ | refine ws_if ?_ | refine ws_ret ?_ | refine ws_drop ?_ | refine ws_next ?_ | refine ws_retN ?_)
  | (with_reducible show WT _ _ _; with_reducible first | refine wt_test ?_ | refine wt_B ?_ | refine wt_not ?_ | refine wt_and ?_ | refine wt_or ?_ | refine wt_yes ?_)
  | (with_reducible show WA _ _ _; with_reducible first | refine wa_nil ?_ | refine wa_cons (wq_of (we_var (by with_unfolding_all exact rfl) ?_)) | refine wa_slotU (by with_unfolding_all exact rfl) ?_ | refine wa_cons ?_)
  | (with_reducible show OpK _ _ _ _ _; with_reducible first | refine ok_isB ?_ | refine ok_notB ?_ | refine ok_plusI ?_ | refine ok_sub ?_ | refine ok_lt ?_ | refine ok_le ?_ | refine ok_gt ?_ | refine ok_ge ?_ | refine ok_eqI ?_ | refine ok_neI ?_ | refine ok_mod (by first | assumption | decide | omega) ?_ | refine ok_ixL (by with_unfolding_all exact rfl) ?_)
  | (with_reducible show CbK _ _ _ _; with_reducible first | refine ck_lenL ?_ | refine ck_lenT ?_ | refine ck_int ?_ | refine ck_intB ?_ | refine ck_max ?_ | refine ck_min ?_ | refine ck_list ?_)
  | with_reducible refine wq_of ?_
  | (with_reducible show WG _ _ _ _ _; with_reducible first | refine wg_name (by with_unfolding_all exact rfl) ?_ | refine wg_tup (by with_unfolding_all exact rfl) ?_ | refine wg_set (by with_unfolding_all exact rfl) ?_)
  | (with_reducible show WGs _ _ _ _ _; with_reducible first | refine wgs_cons ?_ | refine wgs_nil ?_)
  | (with_reducible show WO _ _ _; with_reducible first | refine wo_some ?_ | refine wo_none ?_)
  | refine ⟨_, argD5, ?_⟩
  | refine ⟨_, argD6, ?_⟩
  | refine ⟨_, argD7, ?_⟩
  | refine ⟨_, argD9, ?_⟩
  | with_reducible refine iteT ?_
  | with_reducible refine iteF ?_
  | with_reducible refine ⟨_, frz_per, ?_⟩
  | with_reducible refine ⟨_, frz_own, ?_⟩
  | refine ⟨_, rfl, ?_⟩
  | refine ⟨_, argD1, ?_⟩
  | refine ⟨_, argD2, ?_⟩
  | refine ⟨_, argD0, ?_⟩
  | refine ⟨_, argD3, ?_⟩
  | refine ⟨_, argD4, ?_⟩
  | refine ⟨_, _, rfl, rfl, rfl, ?_⟩
  | refine ⟨_, _, _, rfl, rfl, rfl, ?_⟩
  | refine ⟨(by simp only [List.length_cons, List.length_nil]; decide), ?_⟩
  | refine ⟨rfl, nd1, ?_⟩
  | refine ⟨rfl, nd0, ?_⟩)
local macro_rules | `(tactic| walk_at "w") => `(tactic| first
  | (with_reducible show WE _ _ _; with_reducible first | refine we_var (by with_unfolding_all exact rfl) ?_ | refine we_varF (by with_unfolding_all exact rfl) frz_own ?_ | (show WE (tOp _ _ _) _ _; first | refine we_isNd ?_ | refine we_notNd ?_ | refine we_notN ?_ | refine we_ixS (by with_unfolding_all exact rfl) ?_ | refine we_ixScr (by with_unfolding_all exact rfl) ?_ | refine we_inS (by with_unfolding_all exact rfl) ?_ | refine we_notInS (by with_unfolding_all exact rfl) ?_ | refine we_eqS (by with_unfolding_all exact rfl) ?_ | refine we_neS (by with_unfolding_all exact rfl) ?_ | refine we_opK ?_) | (show WE (tCB _ _) _ _; first | refine we_repr ?_ | refine we_isInt ?_ | refine we_isBl ?_ | refine we_isLst ?_ | refine we_isTup ?_ | refine we_lenO (by with_unfolding_all exact rfl) ?_ | refine we_lenS' (by with_unfolding_all exact rfl) ?_ | refine we_lenScr (by with_unfolding_all exact rfl) ?_ | refine we_cbK ?_) | refine we_dnew ?_ | refine we_lenSetI ?_ | refine we_revL ?_ | refine we_chain ?_ | refine we_slice ?_ | refine we_int ?_ | refine we_bl ?_ | refine we_non ?_ | refine we_str ?_ | refine we_neg ?_ | refine we_not ?_ | refine we_and ?_ | refine we_or ?_ | refine we_if ?_ | refine we_tup ?_ | refine we_lst ?_ | refine we_call ?_ | refine we_mt (by with_unfolding_all exact rfl) ?_)
  | (with_reducible show WS _ _ _ _; with_reducible first | refine ws_seqI ?_ | refine ws_seqA ?_ | refine ws_seqD ?_ | refine ws_asg (by with_unfolding_all exact rfl) ?_ | refine ws_asgG ?_ | refine ws_if ?_ | refine ws_ret ?_ | refine ws_drop ?_ | refine ws_next ?_ | refine ws_retN ?_)
  | (with_reducible show WT _ _ _; with_reducible first | refine wt_truL ?_ | refine wt_test ?_ | refine wt_B ?_ | refine wt_not ?_ | refine wt_and ?_ | refine wt_or ?_ | refine wt_yes ?_)
  | (with_reducible show WA _ _ _; with_reducible first | refine wa_nil ?_ | refine wa_cons (wq_of (we_var (by with_unfolding_all exact rfl) ?_)) | refine wa_slotU (by with_unfolding_all exact rfl) ?_ | refine wa_cons ?_)
  | (with_reducible show OpK _ _ _ _ _; with_reducible first | refine ok_neR ?_ | refine ok_eqR ?_ | refine ok_isB ?_ | refine ok_notB ?_ | refine ok_plusI ?_ | refine ok_sub ?_ | refine ok_lt ?_ | refine ok_le ?_ | refine ok_gt ?_ | refine ok_ge ?_ | refine ok_eqI ?_ | refine ok_neI ?_ | refine ok_mod (by first | assumption | decide | omega) ?_ | refine ok_ixL (by with_unfolding_all exact rfl) ?_)
  | (with_reducible show CbK _ _ _ _; with_reducible first | refine ck_tuple ?_ | refine ck_allF ?_ | refine ck_anyF ?_ | refine ck_abs ?_ | refine ck_sumI ?_ | refine ck_lenL ?_ | refine ck_lenT ?_ | refine ck_int ?_ | refine ck_intB ?_ | refine ck_max ?_ | refine ck_min ?_ | refine ck_list ?_)
  | with_reducible refine wq_of ?_
  | (with_reducible show WG _ _ _ _ _; with_reducible first | refine wg_name (by with_unfolding_all exact rfl) ?_ | refine wg_tup (by with_unfolding_all exact rfl) ?_ | refine wg_set (by with_unfolding_all exact rfl) ?_)
  | (with_reducible show WGs _ _ _ _ _; with_reducible first | refine wgs_cons ?_ | refine wgs_nil ?_)
  | (with_reducible show WO _ _ _; with_reducible first | refine wo_some ?_ | refine wo_none ?_)
  | refine ⟨_, argD5, ?_⟩
  | refine ⟨_, argD6, ?_⟩
  | refine ⟨_, argD7, ?_⟩
  | refine ⟨_, argD9, ?_⟩
  | with_reducible refine iteT ?_
  | with_reducible refine iteF ?_
  | with_reducible refine ⟨_, frz_per, ?_⟩
  | with_reducible refine ⟨_, frz_own, ?_⟩
  | refine ⟨_, rfl, ?_⟩
  | refine ⟨_, argD1, ?_⟩
  | refine ⟨_, argD2, ?_⟩
  | refine ⟨_, argD0, ?_⟩
  | refine ⟨_, argD3, ?_⟩
  | refine ⟨_, argD4, ?_⟩
  | refine ⟨_, _, rfl, rfl, rfl, ?_⟩
  | refine ⟨_, _, _, rfl, rfl, rfl, ?_⟩
  | refine ⟨(by simp only [List.length_cons, List.length_nil]; decide), ?_⟩
  | refine ⟨rfl, nd1, ?_⟩
  | refine ⟨rfl, nd0, ?_⟩
  | refine ⟨_, argD8, ?_⟩
  | refine ⟨_, argD10, ?_⟩)
local macro_rules | `(tactic| walk_at "v") => `(tactic| first
  | (with_reducible show WE _ _ _; with_reducible first | refine we_var (by with_unfolding_all exact rfl) ?_ | refine we_varF (by with_unfolding_all exact rfl) frz_own ?_ | (show WE (tOp _ _ _) _ _; first | refine we_isNd ?_ | refine we_notNd ?_ | refine we_notN ?_ | refine we_ixS (by with_unfolding_all exact rfl) ?_ | refine we_ixScr (by with_unfolding_all exact rfl) ?_ | refine we_inS (by with_unfolding_all exact rfl) ?_ | refine we_notInS (by with_unfolding_all exact rfl) ?_ | refine we_eqS (by with_unfolding_all exact rfl) ?_ | refine we_neS (by with_unfolding_all exact rfl) ?_ | refine we_opK ?_) | (show WE (tCB _ _) _ _; first | refine we_repr ?_ | refine we_lenWeb (by with_unfolding_all exact rfl) (by assumption) ?_ | refine we_isInt ?_ | refine we_isBl ?_ | refine we_isLst ?_ | refine we_isTup ?_ | refine we_lenO (by with_unfolding_all exact rfl) ?_ | refine we_lenS' (by with_unfolding_all exact rfl) ?_ | refine we_lenScr (by with_unfolding_all exact rfl) ?_ | refine we_cbK ?_) | refine we_dnew ?_ | refine we_lenSetI ?_ | refine we_revL ?_ | refine we_nbWeb (by with_unfolding_all exact rfl) (by assumption) (by assumption) ?_ | refine we_tiesWeb (by with_unfolding_all exact rfl) ?_ | refine we_chain ?_ | refine we_slice ?_ | refine we_int ?_ | refine we_bl ?_ | refine we_non ?_ | refine we_str ?_ | refine we_neg ?_ | refine we_not ?_ | refine we_and ?_ | refine we_or ?_ | refine we_if ?_ | refine we_tup ?_ | refine we_lst ?_ | refine we_call ?_ | refine we_mt (by with_unfolding_all exact rfl) ?_)
  | (with_reducible show WS _ _ _ _; with_reducible first | refine ws_seqI ?_ | refine ws_seqA ?_ | refine ws_seqD ?_ | refine ws_asg (by with_unfolding_all exact rfl) ?_ | refine ws_asgG ?_ | refine ws_if ?_ | refine ws_ret ?_ | refine ws_drop ?_ | refine ws_next ?_ | refine ws_retN ?_)
  | (with_reducible show WT _ _ _; with_reducible first | refine wt_truL ?_ | refine wt_test ?_ | refine wt_B ?_ | refine wt_not ?_ | refine wt_and ?_ | refine wt_or ?_ | refine wt_yes ?_)
  | (with_reducible show WA _ _ _; with_reducible first | refine wa_nil ?_ | refine wa_cons (wq_of (we_var (by with_unfolding_all exact rfl) ?_)) | refine wa_slotU (by with_unfolding_all exact rfl) ?_ | refine wa_cons ?_)
  | (with_reducible show OpK _ _ _ _ _; with_reducible first | refine ok_neR ?_ | refine ok_eqR ?_ | refine ok_isB ?_ | refine ok_notB ?_ | refine ok_plusI ?_ | refine ok_sub ?_ | refine ok_lt ?_ | refine ok_le ?_ | refine ok_gt ?_ | refine ok_ge ?_ | refine ok_eqI ?_ | refine ok_neI ?_ | refine ok_mod (by first | assumption | decide | omega) ?_ | refine ok_ixL (by with_unfolding_all exact rfl) ?_)
  | (with_reducible show CbK _ _ _ _; with_reducible first | refine ck_tuple ?_ | refine ck_allF ?_ | refine ck_anyF ?_ | refine ck_abs ?_ | refine ck_sumI ?_ | refine ck_lenL ?_ | refine ck_lenT ?_ | refine ck_int ?_ | refine ck_intB ?_ | refine ck_max ?_ | refine ck_min ?_ | refine ck_list ?_)
  | with_reducible refine wq_of ?_
  | (with_reducible show WG _ _ _ _ _; with_reducible first | refine wg_name (by with_unfolding_all exact rfl) ?_ | refine wg_tup (by with_unfolding_all exact rfl) ?_ | refine wg_set (by with_unfolding_all exact rfl) ?_)
  | (with_reducible show WGs _ _ _ _ _; with_reducible first | refine wgs_cons ?_ | refine wgs_nil ?_)
  | (with_reducible show WO _ _ _; with_reducible first | refine wo_some ?_ | refine wo_none ?_)
  | refine ⟨_, argD5, ?_⟩
  | refine ⟨_, argD6, ?_⟩
  | refine ⟨_, argD7, ?_⟩
  | refine ⟨_, argD9, ?_⟩
  | with_reducible refine iteT ?_
  | with_reducible refine iteF ?_
  | with_reducible refine ⟨_, frz_per, ?_⟩
  | with_reducible refine ⟨_, frz_own, ?_⟩
  | refine ⟨_, rfl, ?_⟩
  | refine ⟨_, argD1, ?_⟩
  | refine ⟨_, argD2, ?_⟩
  | refine ⟨_, argD0, ?_⟩
  | refine ⟨_, argD3, ?_⟩
  | refine ⟨_, argD4, ?_⟩
  | refine ⟨_, _, rfl, rfl, rfl, ?_⟩
  | refine ⟨_, _, _, rfl, rfl, rfl, ?_⟩
  | refine ⟨(by simp only [List.length_cons, List.length_nil]; decide), ?_⟩
  | refine ⟨rfl, nd1, ?_⟩
  | refine ⟨rfl, nd0, ?_⟩
  | refine ⟨_, argD8, ?_⟩
  | refine ⟨_, argD10, ?_⟩)
local macro_rules | `(tactic| walk_at "p") => `(tactic| refine ⟨_, _, rfl, (by omega), (by first | decide | omega), (by first | decide | omega), ?_⟩)
local macro_rules | `(tactic| walk_at "n") => `(tactic| try dsimp only [back, List.set_cons_zero, List.set_cons_succ, List.map_cons, List.map_nil, List.cons_append, List.nil_append])
local macro_rules | `(tactic| walk_at "q") => `(tactic| first | with_reducible refine ws_seqP (ws_par (by with_unfolding_all exact rfl) (by with_unfolding_all exact rfl) ?_) | refine ⟨_, _, rfl, ?_⟩ | walk_at "v")
local macro_rules | `(tactic| walk_at "j") => `(tactic| first
  | (with_reducible show WA _ _ _; with_reducible refine wa_slotJ (by with_unfolding_all exact rfl) ?_)
  | walk_at "v")
section
variable {K : PySem.W.Frag} {a : Ad} {Γ : Ga} {k : Gp → Ga → Prop} {tr : TA} {E : XK}
end
namespace J
end J
end G

namespace G
open PySem L2
local macro_rules | `(tactic| walk_at "g1") => `(tactic| first
  | (with_reducible show WE _ _ _; with_reducible first | refine we_var (by with_unfolding_all exact rfl) ?_ | (show WE (tOp _ _ _) _ _; first | refine we_ixS (by with_unfolding_all exact rfl) ?_ | refine we_ixScr (by with_unfolding_all exact rfl) ?_ | refine we_inS (by with_unfolding_all exact rfl) ?_ | refine we_notInS (by with_unfolding_all exact rfl) ?_ | refine we_eqS (by with_unfolding_all exact rfl) ?_ | refine we_neS (by with_unfolding_all exact rfl) ?_ | refine we_opK ?_) | (show WE (tCB _ _) _ _; first | refine we_lenS' (by with_unfolding_all exact rfl) ?_ | refine we_lenScr (by with_unfolding_all exact rfl) ?_ | refine we_cbK ?_) | refine we_int ?_ | refine we_bl ?_ | refine we_non ?_ | refine we_str ?_ | refine we_neg ?_ | refine we_not ?_ | refine we_and ?_ | refine we_or ?_ | refine we_if ?_ | refine we_tup ?_ | refine we_lst ?_ | refine we_call ?_ | refine we_mt (by with_unfolding_all exact rfl) ?_)
  | (with_reducible show WS _ _ _ _; with_reducible first | refine ws_seqA ?_ | refine ws_seqD ?_ | refine ws_asg (by with_unfolding_all exact rfl) ?_ | refine ws_asgG ?_ | refine ws_if ?_ | refine ws_ret ?_ | refine ws_drop ?_ | refine ws_next ?_ | refine ws_retN ?_)
  | (with_reducible show WT _ _ _; with_reducible first | refine wt_test ?_ | refine wt_B ?_ | refine wt_not ?_ | refine wt_and ?_ | refine wt_or ?_ | refine wt_yes ?_)
  | (with_reducible show WA _ _ _; with_reducible first | refine wa_nil ?_ | refine wa_cons (wq_of (we_var (by with_unfolding_all exact rfl) ?_)) | refine wa_slotU (by with_unfolding_all exact rfl) ?_ | refine wa_cons ?_)
  | (with_reducible show OpK _ _ _ _ _; with_reducible first | refine ok_plusI ?_ | refine ok_sub ?_ | refine ok_lt ?_ | refine ok_le ?_ | refine ok_gt ?_ | refine ok_ge ?_ | refine ok_eqI ?_ | refine ok_neI ?_ | refine ok_mod (by first | assumption | decide | omega) ?_ | refine ok_ixL (by with_unfolding_all exact rfl) ?_)
  | (with_reducible show CbK _ _ _ _; with_reducible first | refine ck_lenL ?_ | refine ck_lenT ?_ | refine ck_int ?_ | refine ck_intB ?_ | refine ck_max ?_ | refine ck_min ?_ | refine ck_list ?_)
  | with_reducible refine wq_of ?_
  | (with_reducible show WG _ _ _ _ _; with_reducible first | refine wg_name (by with_unfolding_all exact rfl) ?_ | refine wg_tup (by with_unfolding_all exact rfl) ?_ | refine wg_set (by with_unfolding_all exact rfl) ?_)
  | (with_reducible show WGs _ _ _ _ _; with_reducible first | refine wgs_cons ?_ | refine wgs_nil ?_)
  | with_reducible refine iteT ?_
  | with_reducible refine iteF ?_
  | with_reducible refine ⟨_, frz_per, ?_⟩
  | with_reducible refine ⟨_, frz_own, ?_⟩
  | refine ⟨_, rfl, ?_⟩
  | refine ⟨_, argD1, ?_⟩
  | refine ⟨_, argD2, ?_⟩
  | refine ⟨_, argD0, ?_⟩
  | refine ⟨_, argD3, ?_⟩
  | refine ⟨_, argD4, ?_⟩
  | refine ⟨_, _, rfl, rfl, rfl, ?_⟩
  | refine ⟨_, _, _, rfl, rfl, rfl, ?_⟩
  | refine ⟨(by simp only [List.length_cons, List.length_nil]; decide), ?_⟩
  | refine ⟨rfl, nd1, ?_⟩
  | refine ⟨rfl, nd0, ?_⟩)
local macro_rules | `(tactic| walk_at "go") => `(tactic| repeat walk_at "g1")
local macro_rules | `(tactic| walk_at "g2") => `(tactic| first
  | (with_reducible show WE _ _ _; with_reducible first | refine we_var (by with_unfolding_all exact rfl) ?_ | (show WE (tOp _ _ _) _ _; first | refine we_notN ?_ | refine we_ixS (by with_unfolding_all exact rfl) ?_ | refine we_ixScr (by with_unfolding_all exact rfl) ?_ | refine we_inS (by with_unfolding_all exact rfl) ?_ | refine we_notInS (by with_unfolding_all exact rfl) ?_ | refine we_eqS (by with_unfolding_all exact rfl) ?_ | refine we_neS (by with_unfolding_all exact rfl) ?_ | refine we_opK ?_) | (show WE (tCB _ _) _ _; first | refine we_isInt ?_ | refine we_isBl ?_ | refine we_isLst ?_ | refine we_isTup ?_ | refine we_lenO (by with_unfolding_all exact rfl) ?_ | refine we_lenS' (by with_unfolding_all exact rfl) ?_ | refine we_lenScr (by with_unfolding_all exact rfl) ?_ | refine we_cbK ?_) | refine we_chain ?_ | refine we_slice ?_ | refine we_int ?_ | refine we_bl ?_ | refine we_non ?_ | refine we_str ?_ | refine we_neg ?_ | refine we_not ?_ | refine we_and ?_ | refine we_or ?_ | refine we_if ?_ | refine we_tup ?_ | refine we_lst ?_ | refine we_call ?_ | refine we_mt (by with_unfolding_all exact rfl) ?_)
  | (with_reducible show WS _ _ _ _; with_reducible first | refine ws_seqA ?_ | refine ws_seqD ?_ | refine ws_asg (by with_unfolding_all exact rfl) ?_ | refine ws_asgG ?_ | refine ws_if ?_ | refine ws_ret ?_ | refine ws_drop ?_ | refine ws_next ?_ | refine ws_retN ?_)
  | (with_reducible show WT _ _ _; with_reducible first | refine wt_test ?_ | refine wt_B ?_ | refine wt_not ?_ | refine wt_and ?_ | refine wt_or ?_ | refine wt_yes ?_)
  | (with_reducible show WA _ _ _; with_reducible first | refine wa_nil ?_ | refine wa_cons (wq_of (we_var (by with_unfolding_all exact rfl) ?_)) | refine wa_slotU (by with_unfolding_all exact rfl) ?_ | refine wa_cons ?_)
  | (with_reducible show OpK _ _ _ _ _; with_reducible first | refine ok_isB ?_ | refine ok_notB ?_ | refine ok_plusI ?_ | refine ok_sub ?_ | refine ok_lt ?_ | refine ok_le ?_ | refine ok_gt ?_ | refine ok_ge ?_ | refine ok_eqI ?_ | refine ok_neI ?_ | refine ok_mod (by first | assumption | decide | omega) ?_ | refine ok_ixL (by with_unfolding_all exact rfl) ?_)
  | (with_reducible show CbK _ _ _ _; with_reducible first | refine ck_lenL ?_ | refine ck_lenT ?_ | refine ck_int ?_ | refine ck_intB ?_ | refine ck_max ?_ | refine ck_min ?_ | refine ck_list ?_)
  | with_reducible refine wq_of ?_
  | (with_reducible show WG _ _ _ _ _; with_reducible first | refine wg_name (by with_unfolding_all exact rfl) ?_ | refine wg_tup (by with_unfolding_all exact rfl) ?_ | refine wg_set (by with_unfolding_all exact rfl) ?_)
  | (with_reducible show WGs _ _ _ _ _; with_reducible first | refine wgs_cons ?_ | refine wgs_nil ?_)
  | (with_reducible show WO _ _ _; with_reducible first | refine wo_some ?_ | refine wo_none ?_)
  | refine ⟨_, argD5, ?_⟩
  | refine ⟨_, argD6, ?_⟩
  | refine ⟨_, argD7, ?_⟩
  | refine ⟨_, argD9, ?_⟩
  | with_reducible refine iteT ?_
  | with_reducible refine iteF ?_
  | with_reducible refine ⟨_, frz_per, ?_⟩
  | with_reducible refine ⟨_, frz_own, ?_⟩
  | refine ⟨_, rfl, ?_⟩
  | refine ⟨_, argD1, ?_⟩
  | refine ⟨_, argD2, ?_⟩
  | refine ⟨_, argD0, ?_⟩
  | refine ⟨_, argD3, ?_⟩
  | refine ⟨_, argD4, ?_⟩
  | refine ⟨_, _, rfl, rfl, rfl, ?_⟩
  | refine ⟨_, _, _, rfl, rfl, rfl, ?_⟩
  | refine ⟨(by simp only [List.length_cons, List.length_nil]; decide), ?_⟩
  | refine ⟨rfl, nd1, ?_⟩
  | refine ⟨rfl, nd0, ?_⟩)
local macro_rules | `(tactic| walk_at "w") => `(tactic| first
  | (with_reducible show WE _ _ _; with_reducible first | refine we_var (by with_unfolding_all exact rfl) ?_ | refine we_varF (by with_unfolding_all exact rfl) frz_own ?_ | (show WE (tOp _ _ _) _ _; first | refine we_isNd ?_ | refine we_notNd ?_ | refine we_notN ?_ | refine we_ixS (by with_unfolding_all exact rfl) ?_ | refine we_ixScr (by with_unfolding_all exact rfl) ?_ | refine we_inS (by with_unfolding_all exact rfl) ?_ | refine we_notInS (by with_unfolding_all exact rfl) ?_ | refine we_eqS (by with_unfolding_all exact rfl) ?_ | refine we_neS (by with_unfolding_all exact rfl) ?_ | refine we_opK ?_) | (show WE (tCB _ _) _ _; first | refine we_repr ?_ | refine we_isInt ?_ | refine we_isBl ?_ | refine we_isLst ?_ | refine we_isTup ?_ | refine we_lenO (by with_unfolding_all exact rfl) ?_ | refine we_lenS' (by with_unfolding_all exact rfl) ?_ | refine we_lenScr (by with_unfolding_all exact rfl) ?_ | refine we_cbK ?_) | refine we_dnew ?_ | refine we_lenSetI ?_ | refine we_revL ?_ | refine we_chain ?_ | refine we_slice ?_ | refine we_int ?_ | refine we_bl ?_ | refine we_non ?_ | refine we_str ?_ | refine we_neg ?_ | refine we_not ?_ | refine we_and ?_ | refine we_or ?_ | refine we_if ?_ | refine we_tup ?_ | refine we_lst ?_ | refine we_call ?_ | refine we_mt (by with_unfolding_all exact rfl) ?_)
  | (with_reducible show WS _ _ _ _; with_reducible first | refine ws_seqI ?_ | refine ws_seqA ?_ | refine ws_seqD ?_ | refine ws_asg (by with_unfolding_all exact rfl) ?_ | refine ws_asgG ?_ | refine ws_if ?_ | refine ws_ret ?_ | refine ws_drop ?_ | refine ws_next ?_ | refine ws_retN ?_)
  | (with_reducible show WT _ _ _; with_reducible first | refine wt_truL ?_ | refine wt_test ?_ | refine wt_B ?_ | refine wt_not ?_ | refine wt_and ?_ | refine wt_or ?_ | refine wt_yes ?_)
  | (with_reducible show WA _ _ _; with_reducible first | refine wa_nil ?_ | refine wa_cons (wq_of (we_var (by with_unfolding_all exact rfl) ?_)) | refine wa_slotU (by with_unfolding_all exact rfl) ?_ | refine wa_cons ?_)
  | (with_reducible show OpK _ _ _ _ _; with_reducible first | refine ok_neR ?_ | refine ok_eqR ?_ | refine ok_isB ?_ | refine ok_notB ?_ | refine ok_plusI ?_ | refine ok_sub ?_ | refine ok_lt ?_ | refine ok_le ?_ | refine ok_gt ?_ | refine ok_ge ?_ | refine ok_eqI ?_ | refine ok_neI ?_ | refine ok_mod (by first | assumption | decide | omega) ?_ | refine ok_ixL (by with_unfolding_all exact rfl) ?_)
  | (with_reducible show CbK _ _ _ _; with_reducible first | refine ck_tuple ?_ | refine ck_allF ?_ | refine ck_anyF ?_ | refine ck_abs ?_ | refine ck_sumI ?_ | refine ck_lenL ?_ | refine ck_lenT ?_ | refine ck_int ?_ | refine ck_intB ?_ | refine ck_max ?_ | refine ck_min ?_ | refine ck_list ?_)
  | with_reducible refine wq_of ?_
  | (with_reducible show WG _ _ _ _ _; with_reducible first | refine wg_name (by with_unfolding_all exact rfl) ?_ | refine wg_tup (by with_unfolding_all exact rfl) ?_ | refine wg_set (by with_unfolding_all exact rfl) ?_)
  | (with_reducible show WGs _ _ _ _ _; with_reducible first | refine wgs_cons ?_ | refine wgs_nil ?_)
  | (with_reducible show WO _ _ _; with_reducible first | refine wo_some ?_ | refine wo_none ?_)
  | refine ⟨_, argD5, ?_⟩
  | refine ⟨_, argD6, ?_⟩
  | refine ⟨_, argD7, ?_⟩
  | refine ⟨_, argD9, ?_⟩
  | with_reducible refine iteT ?_
  | with_reducible refine iteF ?_
  | with_reducible refine ⟨_, frz_per, ?_⟩
  | with_reducible refine ⟨_, frz_own, ?_⟩
  | refine ⟨_, rfl, ?_⟩
  | refine ⟨_, argD1, ?_⟩
  | refine ⟨_, argD2, ?_⟩
  | refine ⟨_, argD0, ?_⟩
  | refine ⟨_, argD3, ?_⟩
  | refine ⟨_, argD4, ?_⟩
  | refine ⟨_, _, rfl, rfl, rfl, ?_⟩
  | refine ⟨_, _, _, rfl, rfl, rfl, ?_⟩
  | refine ⟨(by simp only [List.length_cons, List.length_nil]; decide), ?_⟩
  | refine ⟨rfl, nd1, ?_⟩
  | refine ⟨rfl, nd0, ?_⟩
  | refine ⟨_, argD8, ?_⟩
  | refine ⟨_, argD10, ?_⟩)
local macro_rules | `(tactic| walk_at "v") => `(tactic| first
  | (with_reducible show WE _ _ _; with_reducible first | refine we_var (by with_unfolding_all exact rfl) ?_ | refine we_varF (by with_unfolding_all exact rfl) frz_own ?_ | (show WE (tOp _ _ _) _ _; first | refine we_isNd ?_ | refine we_notNd ?_ | refine we_notN ?_ | refine we_ixS (by with_unfolding_all exact rfl) ?_ | refine we_ixScr (by with_unfolding_all exact rfl) ?_ | refine we_inS (by with_unfolding_all exact rfl) ?_ | refine we_notInS (by with_unfolding_all exact rfl) ?_ | refine we_eqS (by with_unfolding_all exact rfl) ?_ | refine we_neS (by with_unfolding_all exact rfl) ?_ | refine we_opK ?_) | (show WE (tCB _ _) _ _; first | refine we_repr ?_ | refine we_lenWeb (by with_unfolding_all exact rfl) (by assumption) ?_ | refine we_isInt ?_ | refine we_isBl ?_ | refine we_isLst ?_ | refine we_isTup ?_ | refine we_lenO (by with_unfolding_all exact rfl) ?_ | refine we_lenS' (by with_unfolding_all exact rfl) ?_ | refine we_lenScr (by with_unfolding_all exact rfl) ?_ | refine we_cbK ?_) | refine we_dnew ?_ | refine we_lenSetI ?_ | refine we_revL ?_ | refine we_nbWeb (by with_unfolding_all exact rfl) (by assumption) (by assumption) ?_ | refine we_tiesWeb (by with_unfolding_all exact rfl) ?_ | refine we_chain ?_ | refine we_slice ?_ | refine we_int ?_ | refine we_bl ?_ | refine we_non ?_ | refine we_str ?_ | refine we_neg ?_ | refine we_not ?_ | refine we_and ?_ | refine we_or ?_ | refine we_if ?_ | refine we_tup ?_ | refine we_lst ?_ | refine we_call ?_ | refine we_mt (by with_unfolding_all exact rfl) ?_)
  | (with_reducible show WS _ _ _ _; with_reducible first | refine ws_seqI ?_ | refine ws_seqA ?_ | refine ws_seqD ?_ | refine ws_asg (by with_unfolding_all exact rfl) ?_ | refine ws_asgG ?_ | refine ws_if ?_ | refine ws_ret ?_ | refine ws_drop ?_ | refine ws_next ?_ | refine ws_retN ?_)
  | (with_reducible show WT _ _ _; with_reducible first | refine wt_truL ?_ | refine wt_test ?_ | refine wt_B ?_ | refine wt_not ?_ | refine wt_and ?_ | refine wt_or ?_ | refine wt_yes ?_)
  | (with_reducible show WA _ _ _; with_reducible first | refine wa_nil ?_ | refine wa_cons (wq_of (we_var (by with_unfolding_all exact rfl) ?_)) | refine wa_slotU (by with_unfolding_all exact rfl) ?_ | refine wa_cons ?_)
  | (with_reducible show OpK _ _ _ _ _; with_reducible first | refine ok_neR ?_ | refine ok_eqR ?_ | refine ok_isB ?_ | refine ok_notB ?_ | refine ok_plusI ?_ | refine ok_sub ?_ | refine ok_lt ?_ | refine ok_le ?_ | refine ok_gt ?_ | refine ok_ge ?_ | refine ok_eqI ?_ | refine ok_neI ?_ | refine ok_mod (by first | assumption | decide | omega) ?_ | refine ok_ixL (by with_unfolding_all exact rfl) ?_)
  | (with_reducible show CbK _ _ _ _; with_reducible first | refine ck_tuple ?_ | refine ck_allF ?_ | refine ck_anyF ?_ | refine ck_abs ?_ | refine ck_sumI ?_ | refine ck_lenL ?_ | refine ck_lenT ?_ | refine ck_int ?_ | refine ck_intB ?_ | refine ck_max ?_ | refine ck_min ?_ | refine ck_list ?_)
  | with_reducible refine wq_of ?_
  | (with_reducible show WG _ _ _ _ _; with_reducible first | refine wg_name (by with_unfolding_all exact rfl) ?_ | refine wg_tup (by with_unfolding_all exact rfl) ?_ | refine wg_set (by with_unfolding_all exact rfl) ?_)
  | (with_reducible show WGs _ _ _ _ _; with_reducible first | refine wgs_cons ?_ | refine wgs_nil ?_)
  | (with_reducible show WO _ _ _; with_reducible first | refine wo_some ?_ | refine wo_none ?_)
  | refine ⟨_, argD5, ?_⟩
  | refine ⟨_, argD6, ?_⟩
  | refine ⟨_, argD7, ?_⟩
  | refine ⟨_, argD9, ?_⟩
  | with_reducible refine iteT ?_
  | with_reducible refine iteF ?_
  | with_reducible refine ⟨_, frz_per, ?_⟩
  | with_reducible refine ⟨_, frz_own, ?_⟩
  | refine ⟨_, rfl, ?_⟩
  | refine ⟨_, argD1, ?_⟩
  | refine ⟨_, argD2, ?_⟩
  | refine ⟨_, argD0, ?_⟩
  | refine ⟨_, argD3, ?_⟩
  | refine ⟨_, argD4, ?_⟩
  | refine ⟨_, _, rfl, rfl, rfl, ?_⟩
  | refine ⟨_, _, _, rfl, rfl, rfl, ?_⟩
  | refine ⟨(by simp only [List.length_cons, List.length_nil]; decide), ?_⟩
  | refine ⟨rfl, nd1, ?_⟩
  | refine ⟨rfl, nd0, ?_⟩
  | refine ⟨_, argD8, ?_⟩
  | refine ⟨_, argD10, ?_⟩)
local macro_rules | `(tactic| walk_at "p") => `(tactic| refine ⟨_, _, rfl, (by omega), (by first | decide | omega), (by first | decide | omega), ?_⟩)
local macro_rules | `(tactic| walk_at "n") => `(tactic| try dsimp only [back, List.set_cons_zero, List.set_cons_succ, List.map_cons, List.map_nil, List.cons_append, List.nil_append])
local macro_rules | `(tactic| walk_at "q") => `(tactic| first | with_reducible refine ws_seqP (ws_par (by with_unfolding_all exact rfl) (by with_unfolding_all exact rfl) ?_) | refine ⟨_, _, rfl, ?_⟩ | walk_at "v")
/-! ### words and texts -/
theorem asc_ok {w : Str} (h : Txt.isascii w = true) : PyData.strOk w = true := by
  unfold PyData.strOk
  unfold Txt.isascii at h
  rw [Array.all_eq_true] at h ⊢
  intro i hi
  have := h i hi
  rw [decide_eq_true_eq] at this ⊢
  omega
theorem eqv_str {a b : Str} : PyData.eqv (.str a) (.str b) = decide (a = b) := by
  show (a == b) = _
  exact Bool.beq_eq_decide_eq a b
abbrev t_is_integer_word_0 (K : PySem.W.Frag) : TS :=
  (tSeq (tIfS (tOr (tNot (tB (tM0 rIsAsc (tVar 0)))) (tOr (tNot (tB (tM0 rIsDig (tVar 0)))) (tTest (tOp (rGtI) (tCB (rLenA K) (tCons (tVar 0) tNil)) (tC (.int 30)))))) (tRet (tC (.bl false))) tNext)
    (tRet (tOrV (tOp (rEqD K) (tVar 0) (tC (.str "0"))) (tNotV (tM1 rStarts (tVar 0) (tC (.str "0")))))))
def t_is_integer_word (K : PySem.W.Frag) : TS :=
  (t_is_integer_word_0 K)
abbrev N_is_integer_word : List Str := ["word"]
abbrev F_is_integer_word : Fw := fun gs kk xx => ∃ w : Str, gs = [dat (.str w)] ∧ w.length ≤ 1000000 ∧ kk (dat (.bool (intW w))) [none]
abbrev sp_is_integer_word (K : PySem.W.Frag) : Sp := SpG 1 F_is_integer_word
theorem pure_is_integer_word {K : PySem.W.Frag} {vs : List V} {H : Hp} {Q : VK} {E : XK} (h : sp_is_integer_word K vs H Q E) : t_is_integer_word K { nx := fun _ H' => Q .non H', rt := Q } (start N_is_integer_word vs) H := by
  refine body_ok (fun _ => false) ?_ h
  rintro gs kk xx ⟨w, rfl, hl, hk⟩ -
  unfold t_is_integer_word
  show WS _ _ [some (dat (.str w))] _
  have out : ∀ {b : Bool}, intW w = b → ∃ g' Γp, Ent (dat (.bool b)) g' ∧ Les (mask (fun _ => false) 1 [some (dat (.str w))]) Γp ∧ kk g' Γp := fun {b} e => ⟨_, [none], Ent.refl, les_none les_nil, e ▸ hk⟩
  refine ws_seqI (ws_if (wt_or (wt_not (wt_B (wq_of (we_isAsc (wq_of (we_var rfl ⟨_, frz_per, w, rfl, _, frz_per, _, rfl, ?_⟩))))))))
  cases h1 : Txt.isascii w with
  | false =>
    refine iteT (iteT (ws_ret (we_bl (out ?_))))
    unfold intW
    rw [h1]
    rfl
  | true =>
    refine iteF (wt_or (wt_not (wt_B (wq_of (we_isDig (wq_of (we_var rfl ⟨_, frz_per, w, rfl, _, frz_per, _, rfl, ?_⟩)))))))
    cases h2 : Txt.isdigit w with
    | false =>
      refine iteT (iteT (ws_ret (we_bl (out ?_))))
      unfold intW
      rw [h1, h2]
      rfl
    | true =>
      refine iteF (wt_test (wq_of (we_opK (wq_of (we_cbK (wa_cons (wq_of (we_var rfl ⟨_, frz_per, wa_nil ⟨_, argD1, ck_lenS hl ⟨_, frz_per, _, rfl, wq_of (we_int ⟨_, frz_per, _, rfl, ok_gt ⟨_, frz_per, _, rfl, ?_⟩⟩)⟩⟩⟩))))))))
      refine ite_dec (fun h3 => ?_) fun h3 => ws_next ?_
      · refine ws_ret (we_bl (out ?_))
        unfold intW
        rw [h1, h2, decide_eq_false (by omega : ¬ w.length ≤ 30)]
        rfl
      · refine ws_ret (we_or (wq_of (we_opK (wq_of (we_var rfl ⟨_, frz_per, _, rfl, wq_of (we_str ⟨_, frz_per, _, rfl, ?_⟩)⟩)))))
        refine ok_eq (lay_str (asc_ok h1)).shaped (lay_str (by decide +kernel)).shaped ?_
        rw [eqv_str]
        refine ⟨_, frz_per, _, rfl, ?_⟩
        have e0 : intW w = (decide (w = "0") || !Txt.startswith w "0") := by
          unfold intW
          rw [h1, h2, decide_eq_true (by omega : w.length ≤ 30)]
          rfl
        by_cases h4 : w = "0"
        · rw [decide_eq_true h4]
          refine iteT (out ?_)
          rw [e0, decide_eq_true h4]
          rfl
        · rw [decide_eq_false h4]
          refine iteF (we_not (wq_of (we_starts (wq_of (we_var rfl ⟨_, frz_per, _, rfl, wq_of (we_str ⟨_, frz_per, _, rfl, _, frz_per, _, rfl, ?_⟩)⟩)))))
          refine out ?_
          rw [e0, decide_eq_false h4]
          rfl
abbrev t_integers_of_0 (K : PySem.W.Frag) : TS :=
  (tSeq (tIfS (tNot (tB (tCB (rAllA K) (tCons (tLc (iList K (tVar 0)) (gName 1) tYes (tCall (sp_is_integer_word K) [] E0 (tCons (tVar 1) tNil)) [1]) tNil)))) (tRet (tC .non)) tNext)
    (tRet (tLc (iList K (tVar 0)) (gName 1) tYes (tCB rIntT (tCons (tVar 1) tNil)) [1])))
def t_integers_of (K : PySem.W.Frag) : TS :=
  (t_integers_of_0 K)
abbrev N_integers_of : List Str := ["words", "word"]
abbrev F_integers_of : Fw := fun gs kk xx => ∃ ws : List Str, gs = [dat (.list (ws.map .str))] ∧ (∀ w ∈ ws, w.length ≤ 1000000) ∧ ws.length ≤ 100000 ∧
  ((ws.all intW = true ∧ ∃ ns : List Int, ws.map intText? = ns.map some ∧ kk (own (ns.map .int)) [none]) ∨ (ws.all intW = false ∧ kk (dat .none) [none]))
abbrev sp_integers_of (K : PySem.W.Frag) : Sp := SpG 1 F_integers_of
theorem pure_integers_of {K : PySem.W.Frag} {vs : List V} {H : Hp} {Q : VK} {E : XK} (h : sp_integers_of K vs H Q E) : t_integers_of K { nx := fun _ H' => Q .non H', rt := Q } (start N_integers_of vs) H := by
  refine body_ok (fun _ => false) ?_ h
  rintro gs kk xx ⟨ws, rfl, hl, hn, hk⟩ -
  unfold t_integers_of
  show WS _ _ [some (dat (.list (ws.map .str))), none] _
  refine ws_seqI (ws_if (wt_not (wt_B (wq_of (we_cbK (wa_cons (wq_of (we_lcM .str .bool intW (wil_list (wq_of (we_var rfl ⟨_, frz_per, _, rfl, ws, rfl, rfl, hn, fun w hw => ?_, ?_⟩)))))))))))
  · refine wg_name rfl ?_
    walk_at "n"
    exact wq_of (we_call (wa_cons (wq_of (we_var rfl ⟨_, frz_per, wa_nil ⟨rfl, nd0, w, rfl, hl w hw, _, frz_per, rfl, rfl⟩⟩))))
  refine ⟨_, frz_own, wa_nil ⟨_, argD1, ck_allF ⟨_, frz_per, _, rfl, ?_⟩⟩⟩
  rcases hk with ⟨ha, ns, hns, hk⟩ | ⟨ha, hk⟩
  · rw [ha]
    refine iteF (ws_next ?_)
    have hlen : ws.length = ns.length := by have := congrArg List.length hns; rwa [List.length_map, List.length_map] at this
    refine ws_ret (we_lcM .str .int (fun w => (intText? w).getD 0) (wil_list (wq_of (we_var rfl ⟨_, frz_per, _, rfl, ws, rfl, rfl, hn, fun w hw => ?_, ?_⟩))))
    · have hint : ∃ n, intText? w = some n := by
        have : intText? w ∈ ws.map intText? := List.mem_map.mpr ⟨w, hw, rfl⟩
        rw [hns] at this
        obtain ⟨n, _, e⟩ := List.mem_map.mp this
        exact ⟨n, e.symm⟩
      obtain ⟨n, en⟩ := hint
      have hw30 : w.length ≤ 30 := by
        have := List.all_eq_true.mp ha w hw
        unfold intW at this
        simp only [Bool.and_eq_true, decide_eq_true_eq] at this
        exact this.2.2.1
      refine wg_name rfl ?_
      walk_at "n"
      refine wq_of (we_cbK (wa_cons (wq_of (we_var rfl ⟨_, frz_per, wa_nil ⟨_, argD1, ck_intT en (by omega) ⟨_, frz_per, ?_, rfl⟩⟩⟩))))
      rw [en]
      rfl
    · have e : ws.map (fun w => (intText? w).getD 0) = ns := by
        have h2 := congrArg (List.map fun o : Option Int => o.getD 0) hns
        rw [List.map_map, List.map_map] at h2
        exact h2.trans (List.map_id _)
      rw [e]
      exact ⟨_, _, Ent.refl, les_none les_nil, hk⟩
  · rw [ha]
    exact iteT (ws_ret (we_non ⟨_, _, Ent.refl, les_none les_nil, hk⟩))
end G

namespace G
open PySem L2
local macro_rules | `(tactic| walk_at "g1") => `(tactic| first
  | (with_reducible show WE _ _ _; with_reducible first | refine we_var (by with_unfolding_all exact rfl) ?_ | (show WE (tOp _ _ _) _ _; first | refine we_ixS (by with_unfolding_all exact rfl) ?_ | refine we_ixScr (by with_unfolding_all exact rfl) ?_ | refine we_inS (by with_unfolding_all exact rfl) ?_ | refine we_notInS (by with_unfolding_all exact rfl) ?_ | refine we_eqS (by with_unfolding_all exact rfl) ?_ | refine we_neS (by with_unfolding_all exact rfl) ?_ | refine we_opK ?_) | (show WE (tCB _ _) _ _; first | refine we_lenS' (by with_unfolding_all exact rfl) ?_ | refine we_lenScr (by with_unfolding_all exact rfl) ?_ | refine we_cbK ?_) | refine we_int ?_ | refine we_bl ?_ | refine we_non ?_ | refine we_str ?_ | refine we_neg ?_ | refine we_not ?_ | refine we_and ?_ | refine we_or ?_ | refine we_if ?_ | refine we_tup ?_ | refine we_lst ?_ | refine we_call ?_ | refine we_mt (by with_unfolding_all exact rfl) ?_)
  | (with_reducible show WS _ _ _ _; with_reducible first | refine ws_seqA ?_ | refine ws_seqD ?_ | refine ws_asg (by with_unfolding_all exact rfl) ?_ | refine ws_asgG ?_ | refine ws_if ?_ | refine ws_ret ?_ | refine ws_drop ?_ | refine ws_next ?_ | refine ws_retN ?_)
  | (with_reducible show WT _ _ _; with_reducible first | refine wt_test ?_ | refine wt_B ?_ | refine wt_not ?_ | refine wt_and ?_ | refine wt_or ?_ | refine wt_yes ?_)
  | (with_reducible show WA _ _ _; with_reducible first | refine wa_nil ?_ | refine wa_cons (wq_of (we_var (by with_unfolding_all exact rfl) ?_)) | refine wa_slotU (by with_unfolding_all exact rfl) ?_ | refine wa_cons ?_)
  | (with_reducible show OpK _ _ _ _ _; with_reducible first | refine ok_plusI ?_ | refine ok_sub ?_ | refine ok_lt ?_ | refine ok_le ?_ | refine ok_gt ?_ | refine ok_ge ?_ | refine ok_eqI ?_ | refine ok_neI ?_ | refine ok_mod (by first | assumption | decide | omega) ?_ | refine ok_ixL (by with_unfolding_all exact rfl) ?_)
  | (with_reducible show CbK _ _ _ _; with_reducible first | refine ck_lenL ?_ | refine ck_lenT ?_ | refine ck_int ?_ | refine ck_intB ?_ | refine ck_max ?_ | refine ck_min ?_ | refine ck_list ?_)
  | with_reducible refine wq_of ?_
  | (with_reducible show WG _ _ _ _ _; with_reducible first | refine wg_name (by with_unfolding_all exact rfl) ?_ | refine wg_tup (by with_unfolding_all exact rfl) ?_ | refine wg_set (by with_unfolding_all exact rfl) ?_)
  | (with_reducible show WGs _ _ _ _ _; with_reducible first | refine wgs_cons ?_ | refine wgs_nil ?_)
  | with_reducible refine iteT ?_
  | with_reducible refine iteF ?_
  | with_reducible refine ⟨_, frz_per, ?_⟩
  | with_reducible refine ⟨_, frz_own, ?_⟩
  | refine ⟨_, rfl, ?_⟩
  | refine ⟨_, argD1, ?_⟩
  | refine ⟨_, argD2, ?_⟩
  | refine ⟨_, argD0, ?_⟩
  | refine ⟨_, argD3, ?_⟩
  | refine ⟨_, argD4, ?_⟩
  | refine ⟨_, _, rfl, rfl, rfl, ?_⟩
  | refine ⟨_, _, _, rfl, rfl, rfl, ?_⟩
  | refine ⟨(by simp only [List.length_cons, List.length_nil]; decide), ?_⟩
  | refine ⟨rfl, nd1, ?_⟩
  | refine ⟨rfl, nd0, ?_⟩)
local macro_rules | `(tactic| walk_at "go") => `(tactic| repeat walk_at "g1")
local macro_rules | `(tactic| walk_at "g2") => `(tactic| first
  | (with_reducible show WE _ _ _; with_reducible first | refine we_var (by with_unfolding_all exact rfl) ?_ | (show WE (tOp _ _ _) _ _; first | refine we_notN ?_ | refine we_ixS (by with_unfolding_all exact rfl) ?_ | refine we_ixScr (by with_unfolding_all exact rfl) ?_ | refine we_inS (by with_unfolding_all exact rfl) ?_ | refine we_notInS (by with_unfolding_all exact rfl) ?_ | refine we_eqS (by with_unfolding_all exact rfl) ?_ | refine we_neS (by with_unfolding_all exact rfl) ?_ | refine we_opK ?_) | (show WE (tCB _ _) _ _; first | refine we_isInt ?_ | refine we_isBl ?_ | refine we_isLst ?_ | refine we_isTup ?_ | refine we_lenO (by with_unfolding_all exact rfl) ?_ | refine we_lenS' (by with_unfolding_all exact rfl) ?_ | refine we_lenScr (by with_unfolding_all exact rfl) ?_ | refine we_cbK ?_) | refine we_chain ?_ | refine we_slice ?_ | refine we_int ?_ | refine we_bl ?_ | refine we_non ?_ | refine we_str ?_ | refine we_neg ?_ | refine we_not ?_ | refine we_and ?_ | refine we_or ?_ | refine we_if ?_ | refine we_tup ?_ | refine we_lst ?_ | refine we_call ?_ | refine we_mt (by with_unfolding_all exact rfl) ?_)
  | (with_reducible show WS _ _ _ _; with_reducible first | refine ws_seqA ?_ | refine ws_seqD ?_ | refine ws_asg (by with_unfolding_all exact rfl) ?_ | refine ws_asgG ?_ | refine ws_if ?_ | refine ws_ret ?_ | refine ws_drop ?_ | refine ws_next ?_ | refine ws_retN ?_)
  | (with_reducible show WT _ _ _; with_reducible first | refine wt_test ?_ | refine wt_B ?_ | refine wt_not ?_ | refine wt_and ?_ | refine wt_or ?_ | refine wt_yes ?_)
  | (with_reducible show WA _ _ _; with_reducible first | refine wa_nil ?_ | refine wa_cons (wq_of (we_var (by with_unfolding_all exact rfl) ?_)) | refine wa_slotU (by with_unfolding_all exact rfl) ?_ | refine wa_cons ?_)
  | (with_reducible show OpK _ _ _ _ _; with_reducible first | refine ok_isB ?_ | refine ok_notB ?_ | refine ok_plusI ?_ | refine ok_sub ?_ | refine ok_lt ?_ | refine ok_le ?_ | refine ok_gt ?_ | refine ok_ge ?_ | refine ok_eqI ?_ | refine ok_neI ?_ | refine ok_mod (by first | assumption | decide | omega) ?_ | refine ok_ixL (by with_unfolding_all exact rfl) ?_)
  | (with_reducible show CbK _ _ _ _; with_reducible first | refine ck_lenL ?_ | refine ck_lenT ?_ | refine ck_int ?_ | refine ck_intB ?_ | refine ck_max ?_ | refine ck_min ?_ | refine ck_list ?_)
  | with_reducible refine wq_of ?_
  | (with_reducible show WG _ _ _ _ _; with_reducible first | refine wg_name (by with_unfolding_all exact rfl) ?_ | refine wg_tup (by with_unfolding_all exact rfl) ?_ | refine wg_set (by with_unfolding_all exact rfl) ?_)
  | (with_reducible show WGs _ _ _ _ _; with_reducible first | refine wgs_cons ?_ | refine wgs_nil ?_)
  | (with_reducible show WO _ _ _; with_reducible first | refine wo_some ?_ | refine wo_none ?_)
  | refine ⟨_, argD5, ?_⟩
  | refine ⟨_, argD6, ?_⟩
  | refine ⟨_, argD7, ?_⟩
  | refine ⟨_, argD9, ?_⟩
  | with_reducible refine iteT ?_
  | with_reducible refine iteF ?_
  | with_reducible refine ⟨_, frz_per, ?_⟩
  | with_reducible refine ⟨_, frz_own, ?_⟩
  | refine ⟨_, rfl, ?_⟩
  | refine ⟨_, argD1, ?_⟩
  | refine ⟨_, argD2, ?_⟩
  | refine ⟨_, argD0, ?_⟩
  | refine ⟨_, argD3, ?_⟩
  | refine ⟨_, argD4, ?_⟩
  | refine ⟨_, _, rfl, rfl, rfl, ?_⟩
  | refine ⟨_, _, _, rfl, rfl, rfl, ?_⟩
  | refine ⟨(by simp only [List.length_cons, List.length_nil]; decide), ?_⟩
  | refine ⟨rfl, nd1, ?_⟩
  | refine ⟨rfl, nd0, ?_⟩)
local macro_rules | `(tactic| walk_at "w") => `(tactic| first
  | (with_reducible show WE _ _ _; with_reducible first | refine we_var (by with_unfolding_all exact rfl) ?_ | refine we_varF (by with_unfolding_all exact rfl) frz_own ?_ | (show WE (tOp _ _ _) _ _; first | refine we_isNd ?_ | refine we_notNd ?_ | refine we_notN ?_ | refine we_ixS (by with_unfolding_all exact rfl) ?_ | refine we_ixScr (by with_unfolding_all exact rfl) ?_ | refine we_inS (by with_unfolding_all exact rfl) ?_ | refine we_notInS (by with_unfolding_all exact rfl) ?_ | refine we_eqS (by with_unfolding_all exact rfl) ?_ | refine we_neS (by with_unfolding_all exact rfl) ?_ | refine we_opK ?_) | (show WE (tCB _ _) _ _; first | refine we_repr ?_ | refine we_isInt ?_ | refine we_isBl ?_ | refine we_isLst ?_ | refine we_isTup ?_ | refine we_lenO (by with_unfolding_all exact rfl) ?_ | refine we_lenS' (by with_unfolding_all exact rfl) ?_ | refine we_lenScr (by with_unfolding_all exact rfl) ?_ | refine we_cbK ?_) | refine we_dnew ?_ | refine we_lenSetI ?_ | refine we_revL ?_ | refine we_chain ?_ | refine we_slice ?_ | refine we_int ?_ | refine we_bl ?_ | refine we_non ?_ | refine we_str ?_ | refine we_neg ?_ | refine we_not ?_ | refine we_and ?_ | refine we_or ?_ | refine we_if ?_ | refine we_tup ?_ | refine we_lst ?_ | refine we_call ?_ | refine we_mt (by with_unfolding_all exact rfl) ?_)
  | (with_reducible show WS _ _ _ _; with_reducible first | refine ws_seqI ?_ | refine ws_seqA ?_ | refine ws_seqD ?_ | refine ws_asg (by with_unfolding_all exact rfl) ?_ | refine ws_asgG ?_ | refine ws_if ?_ | refine ws_ret ?_ | refine ws_drop ?_ | refine ws_next ?_ | refine ws_retN ?_)
  | (with_reducible show WT _ _ _; with_reducible first | refine wt_truL ?_ | refine wt_test ?_ | refine wt_B ?_ | refine wt_not ?_ | refine wt_and ?_ | refine wt_or ?_ | refine wt_yes ?_)
  | (with_reducible show WA _ _ _; with_reducible first | refine wa_nil ?_ | refine wa_cons (wq_of (we_var (by with_unfolding_all exact rfl) ?_)) | refine wa_slotU (by with_unfolding_all exact rfl) ?_ | refine wa_cons ?_)
  | (with_reducible show OpK _ _ _ _ _; with_reducible first | refine ok_neR ?_ | refine ok_eqR ?_ | refine ok_isB ?_ | refine ok_notB ?_ | refine ok_plusI ?_ | refine ok_sub ?_ | refine ok_lt ?_ | refine ok_le ?_ | refine ok_gt ?_ | refine ok_ge ?_ | refine ok_eqI ?_ | refine ok_neI ?_ | refine ok_mod (by first | assumption | decide | omega) ?_ | refine ok_ixL (by with_unfolding_all exact rfl) ?_)
  | (with_reducible show CbK _ _ _ _; with_reducible first | refine ck_tuple ?_ | refine ck_allF ?_ | refine ck_anyF ?_ | refine ck_abs ?_ | refine ck_sumI ?_ | refine ck_lenL ?_ | refine ck_lenT ?_ | refine ck_int ?_ | refine ck_intB ?_ | refine ck_max ?_ | refine ck_min ?_ | refine ck_list ?_)
  | with_reducible refine wq_of ?_
  | (with_reducible show WG _ _ _ _ _; with_reducible first | refine wg_name (by with_unfolding_all exact rfl) ?_ | refine wg_tup (by with_unfolding_all exact rfl) ?_ | refine wg_set (by with_unfolding_all exact rfl) ?_)
  | (with_reducible show WGs _ _ _ _ _; with_reducible first | refine wgs_cons ?_ | refine wgs_nil ?_)
  | (with_reducible show WO _ _ _; with_reducible first | refine wo_some ?_ | refine wo_none ?_)
  | refine ⟨_, argD5, ?_⟩
  | refine ⟨_, argD6, ?_⟩
  | refine ⟨_, argD7, ?_⟩
  | refine ⟨_, argD9, ?_⟩
  | with_reducible refine iteT ?_
  | with_reducible refine iteF ?_
  | with_reducible refine ⟨_, frz_per, ?_⟩
  | with_reducible refine ⟨_, frz_own, ?_⟩
  | refine ⟨_, rfl, ?_⟩
  | refine ⟨_, argD1, ?_⟩
  | refine ⟨_, argD2, ?_⟩
  | refine ⟨_, argD0, ?_⟩
  | refine ⟨_, argD3, ?_⟩
  | refine ⟨_, argD4, ?_⟩
  | refine ⟨_, _, rfl, rfl, rfl, ?_⟩
  | refine ⟨_, _, _, rfl, rfl, rfl, ?_⟩
  | refine ⟨(by simp only [List.length_cons, List.length_nil]; decide), ?_⟩
  | refine ⟨rfl, nd1, ?_⟩
  | refine ⟨rfl, nd0, ?_⟩
  | refine ⟨_, argD8, ?_⟩
  | refine ⟨_, argD10, ?_⟩)
local macro_rules | `(tactic| walk_at "v") => `(tactic| first
  | (with_reducible show WE _ _ _; with_reducible first | refine we_var (by with_unfolding_all exact rfl) ?_ | refine we_varF (by with_unfolding_all exact rfl) frz_own ?_ | (show WE (tOp _ _ _) _ _; first | refine we_isNd ?_ | refine we_notNd ?_ | refine we_notN ?_ | refine we_ixS (by with_unfolding_all exact rfl) ?_ | refine we_ixScr (by with_unfolding_all exact rfl) ?_ | refine we_inS (by with_unfolding_all exact rfl) ?_ | refine we_notInS (by with_unfolding_all exact rfl) ?_ | refine we_eqS (by with_unfolding_all exact rfl) ?_ | refine we_neS (by with_unfolding_all exact rfl) ?_ | refine we_opK ?_) | (show WE (tCB _ _) _ _; first | refine we_repr ?_ | refine we_lenWeb (by with_unfolding_all exact rfl) (by assumption) ?_ | refine we_isInt ?_ | refine we_isBl ?_ | refine we_isLst ?_ | refine we_isTup ?_ | refine we_lenO (by with_unfolding_all exact rfl) ?_ | refine we_lenS' (by with_unfolding_all exact rfl) ?_ | refine we_lenScr (by with_unfolding_all exact rfl) ?_ | refine we_cbK ?_) | refine we_dnew ?_ | refine we_lenSetI ?_ | refine we_revL ?_ | refine we_nbWeb (by with_unfolding_all exact rfl) (by assumption) (by assumption) ?_ | refine we_tiesWeb (by with_unfolding_all exact rfl) ?_ | refine we_chain ?_ | refine we_slice ?_ | refine we_int ?_ | refine we_bl ?_ | refine we_non ?_ | refine we_str ?_ | refine we_neg ?_ | refine we_not ?_ | refine we_and ?_ | refine we_or ?_ | refine we_if ?_ | refine we_tup ?_ | refine we_lst ?_ | refine we_call ?_ | refine we_mt (by with_unfolding_all exact rfl) ?_)
  | (with_reducible show WS _ _ _ _; with_reducible first | refine ws_seqI ?_ | refine ws_seqA ?_ | refine ws_seqD ?_ | refine ws_asg (by with_unfolding_all exact rfl) ?_ | refine ws_asgG ?_ | refine ws_if ?_ | refine ws_ret ?_ | refine ws_drop ?_ | refine ws_next ?_ | refine ws_retN ?_)
  | (with_reducible show WT _ _ _; with_reducible first | refine wt_truL ?_ | refine wt_test ?_ | refine wt_B ?_ | refine wt_not ?_ | refine wt_and ?_ | refine wt_or ?_ | refine wt_yes ?_)
  | (with_reducible show WA _ _ _; with_reducible first | refine wa_nil ?_ | refine wa_cons (wq_of (we_var (by with_unfolding_all exact rfl) ?_)) | refine wa_slotU (by with_unfolding_all exact rfl) ?_ | refine wa_cons ?_)
  | (with_reducible show OpK _ _ _ _ _; with_reducible first | refine ok_neR ?_ | refine ok_eqR ?_ | refine ok_isB ?_ | refine ok_notB ?_ | refine ok_plusI ?_ | refine ok_sub ?_ | refine ok_lt ?_ | refine ok_le ?_ | refine ok_gt ?_ | refine ok_ge ?_ | refine ok_eqI ?_ | refine ok_neI ?_ | refine ok_mod (by first | assumption | decide | omega) ?_ | refine ok_ixL (by with_unfolding_all exact rfl) ?_)
  | (with_reducible show CbK _ _ _ _; with_reducible first | refine ck_tuple ?_ | refine ck_allF ?_ | refine ck_anyF ?_ | refine ck_abs ?_ | refine ck_sumI ?_ | refine ck_lenL ?_ | refine ck_lenT ?_ | refine ck_int ?_ | refine ck_intB ?_ | refine ck_max ?_ | refine ck_min ?_ | refine ck_list ?_)
  | with_reducible refine wq_of ?_
  | (with_reducible show WG _ _ _ _ _; with_reducible first | refine wg_name (by with_unfolding_all exact rfl) ?_ | refine wg_tup (by with_unfolding_all exact rfl) ?_ | refine wg_set (by with_unfolding_all exact rfl) ?_)
  | (with_reducible show WGs _ _ _ _ _; with_reducible first | refine wgs_cons ?_ | refine wgs_nil ?_)
  | (with_reducible show WO _ _ _; with_reducible first | refine wo_some ?_ | refine wo_none ?_)
  | refine ⟨_, argD5, ?_⟩
  | refine ⟨_, argD6, ?_⟩
  | refine ⟨_, argD7, ?_⟩
  | refine ⟨_, argD9, ?_⟩
  | with_reducible refine iteT ?_
  | with_reducible refine iteF ?_
  | with_reducible refine ⟨_, frz_per, ?_⟩
  | with_reducible refine ⟨_, frz_own, ?_⟩
  | refine ⟨_, rfl, ?_⟩
  | refine ⟨_, argD1, ?_⟩
  | refine ⟨_, argD2, ?_⟩
  | refine ⟨_, argD0, ?_⟩
  | refine ⟨_, argD3, ?_⟩
  | refine ⟨_, argD4, ?_⟩
  | refine ⟨_, _, rfl, rfl, rfl, ?_⟩
  | refine ⟨_, _, _, rfl, rfl, rfl, ?_⟩
  | refine ⟨(by simp only [List.length_cons, List.length_nil]; decide), ?_⟩
  | refine ⟨rfl, nd1, ?_⟩
  | refine ⟨rfl, nd0, ?_⟩
  | refine ⟨_, argD8, ?_⟩
  | refine ⟨_, argD10, ?_⟩)
local macro_rules | `(tactic| walk_at "p") => `(tactic| refine ⟨_, _, rfl, (by omega), (by first | decide | omega), (by first | decide | omega), ?_⟩)
local macro_rules | `(tactic| walk_at "n") => `(tactic| try dsimp only [back, List.set_cons_zero, List.set_cons_succ, List.map_cons, List.map_nil, List.cons_append, List.nil_append])
local macro_rules | `(tactic| walk_at "q") => `(tactic| first | with_reducible refine ws_seqP (ws_par (by with_unfolding_all exact rfl) (by with_unfolding_all exact rfl) ?_) | refine ⟨_, _, rfl, ?_⟩ | walk_at "v")
/-! ### the text of lists -/
def rowS (hs : List Int) : Str := if hs = [] then "." else Str.join (sepS 44) (hs.map tS)
def listsS (rows : List (List Int)) : Str := if rows = [] then "-" else Str.join (sepS 32) (rows.map rowS)
structure RowK (hs : List Int) : Prop where
  asc : hs.Pairwise (· < ·)
  rng : ∀ h ∈ hs, 0 ≤ h ∧ h < 10 ^ 30
  few : hs.length ≤ 100
def RowsK (rows : List (List Int)) : Prop := rows.length ≤ 100 ∧ ∀ r ∈ rows, RowK r
theorem str_len {s : Str} : s.length = s.cps.toList.length := by simp [Str.length]
theorem nI {i : Int} (h : 0 ≤ i ∧ i < 10 ^ 30) : ∃ m : Nat, i = (m : Int) ∧ m < 10 ^ 30 := ⟨i.toNat, by omega, by omega⟩
theorem hue_len {i : Int} (h : 0 ≤ i ∧ i < 10 ^ 30) : (tS i).length ≤ 30 := by
  obtain ⟨m, rfl, hm⟩ := nI h
  exact tS_len (by decide) hm
theorem hue_w {i : Int} (h : 0 ≤ i ∧ i < 10 ^ 30) : intW (tS i) = true := by
  obtain ⟨m, rfl, hm⟩ := nI h
  exact tS_w hm
theorem hue_int {i : Int} (h : 0 ≤ i ∧ i < 10 ^ 30) : intText? (tS i) = some i := by
  obtain ⟨m, rfl, hm⟩ := nI h
  exact tS_int (Nat.lt_of_lt_of_le hm (Nat.pow_le_pow_right (by decide) (by decide)))
theorem hue_free {i : Int} {c : Nat} (h : 0 ≤ i ∧ i < 10 ^ 30) (hc : c < 48) : c ∉ (tS i).cps.toList := by
  obtain ⟨m, rfl, hm⟩ := nI h
  exact tS_free hc
theorem hue_asc {i : Int} (h : 0 ≤ i ∧ i < 10 ^ 30) : ∀ c ∈ (tS i).cps.toList, 48 ≤ c ∧ c ≤ 57 := by
  obtain ⟨m, rfl, hm⟩ := nI h
  exact tS_dig m
theorem hue_ne {i : Int} (h : 0 ≤ i ∧ i < 10 ^ 30) : (tS i).cps.toList ≠ [] := by
  obtain ⟨m, rfl, hm⟩ := nI h
  exact tS_ne m
theorem hue_log {i : Int} (h : 0 ≤ i ∧ i < 10 ^ 30) : i.natAbs.log2 < 1920 := by
  by_cases c : i.natAbs = 0
  · rw [c]; decide
  · refine (Nat.log2_lt c).mpr (Nat.lt_of_lt_of_le (show i.natAbs < 2 ^ 100 by omega) (Nat.pow_le_pow_right (by decide) (by decide)))
theorem sum_len {ws : List Str} {b : Nat} (h : ∀ w ∈ ws, w.length ≤ b) : (ws.map (·.length)).sum ≤ b * ws.length := by
  induction ws with
  | nil => simp
  | cons w ws ih =>
    have h1 := ih fun x hx => h x (by simp [hx])
    have h2 := h w (by simp)
    rw [List.map_cons, List.sum_cons, List.length_cons, Nat.mul_add, Nat.mul_one]
    omega
theorem join_len {s : Str} : ∀ {ws : List Str}, (Str.join s ws).length ≤ (ws.map (·.length)).sum + ws.length * s.length
  | [] => by
    show Str.empty.length ≤ _
    exact Nat.zero_le _
  | [x] => by
    rw [PyProof.Rows.join_one]
    simp
  | x :: y :: r => by
    have ih := join_len (s := s) (ws := y :: r)
    rw [PyProof.Rows.join_cons_cons]
    have e : (x ++ s ++ Str.join s (y :: r)).length = x.length + s.length + (Str.join s (y :: r)).length := by
      rw [str_len, app_cps, app_cps, str_len, str_len, str_len]
      simp only [List.length_append]
    rw [e]
    simp only [List.map_cons, List.sum_cons, List.length_cons] at ih ⊢
    have : (r.length + 1 + 1) * s.length = (r.length + 1) * s.length + s.length := by rw [Nat.add_mul, Nat.one_mul]
    omega
theorem row_len {hs : List Int} (h : RowK hs) : (rowS hs).length ≤ 3100 := by
  unfold rowS
  split
  · decide
  · have h1 := join_len (s := sepS 44) (ws := hs.map tS)
    have h2 := sum_len (ws := hs.map tS) (b := 30) fun w hw => by
      obtain ⟨i, hi, rfl⟩ := List.mem_map.mp hw
      exact hue_len (h.rng i hi)
    have h3 : (sepS 44).length = 1 := rfl
    have h4 := h.few
    rw [h3] at h1
    rw [List.length_map] at h1 h2
    omega
theorem row_cps {hs : List Int} (h : RowK hs) : ∀ c ∈ (rowS hs).cps.toList, c = 46 ∨ c = 44 ∨ (48 ≤ c ∧ c ≤ 57) := fun c hc => by
  unfold rowS at hc
  split at hc
  · exact .inl (List.mem_singleton.mp hc)
  · rw [PyProof.Rows.mem_join] at hc
    rcases hc with ⟨x, hx, hc⟩ | ⟨_, hc⟩
    · obtain ⟨i, hi, rfl⟩ := List.mem_map.mp hx
      exact .inr (.inr (hue_asc (h.rng i hi) c hc))
    · exact .inr (.inl (List.mem_singleton.mp hc))
theorem split_row {hs : List Int} (h : RowK hs) (h0 : hs ≠ []) : Txt.split (rowS hs) "," = hs.map tS := by
  unfold rowS
  rw [if_neg h0]
  refine split_join (c := 44) (by simpa using h0) fun x hx => ?_
  obtain ⟨i, hi, rfl⟩ := List.mem_map.mp hx
  exact hue_free (h.rng i hi) (by decide)
theorem join_head {s x : Str} {r : List Str} {c : Nat} {t : List Nat} (h : x.cps.toList = c :: t) : ∃ t', (Str.join s (x :: r)).cps.toList = c :: t' := by
  cases r with
  | nil => exact ⟨t, by rw [PyProof.Rows.join_one, h]⟩
  | cons y r =>
    rw [PyProof.Rows.join_cons_cons, app_cps, app_cps, h]
    exact ⟨_, rfl⟩
theorem row_head {hs : List Int} (h : RowK hs) (h0 : hs ≠ []) : ∃ c t, (rowS hs).cps.toList = c :: t ∧ 48 ≤ c := by
  unfold rowS
  rw [if_neg h0]
  cases hs with
  | nil => exact absurd rfl h0
  | cons i hs =>
    have hi := h.rng i (by simp)
    cases hc : (tS i).cps.toList with
    | nil => exact absurd hc (hue_ne hi)
    | cons c t =>
      obtain ⟨t', e⟩ := join_head (s := sepS 44) (r := hs.map tS) hc
      exact ⟨c, t', e, (hue_asc hi c (by rw [hc]; simp)).1⟩
theorem row_dot {hs : List Int} (h : RowK hs) : rowS hs = "." ↔ hs = [] := by
  refine ⟨fun e => Classical.byContradiction fun h0 => ?_, fun e => by unfold rowS; rw [if_pos e]⟩
  obtain ⟨c, t, e1, e2⟩ := row_head h h0
  rw [e] at e1
  have : (46 : Nat) = c := (List.cons.inj e1).1
  omega
theorem split_lists {rows : List (List Int)} (h : RowsK rows) (h0 : rows ≠ []) : Txt.split (listsS rows) " " = rows.map rowS := by
  unfold listsS
  rw [if_neg h0]
  refine split_join (c := 32) (by simpa using h0) fun x hx hm => ?_
  obtain ⟨r, hr, rfl⟩ := List.mem_map.mp hx
  have := row_cps (h.2 r hr) 32 hm
  omega
theorem lists_head {rows : List (List Int)} (h : RowsK rows) (h0 : rows ≠ []) : ∃ c t, (listsS rows).cps.toList = c :: t ∧ 46 ≤ c := by
  unfold listsS
  rw [if_neg h0]
  cases rows with
  | nil => exact absurd rfl h0
  | cons r rows =>
    have hr := h.2 r (by simp)
    obtain ⟨c, t, e, hc⟩ : ∃ c t, (rowS r).cps.toList = c :: t ∧ 46 ≤ c := by
      by_cases hn : r = []
      · subst hn
        exact ⟨46, [], rfl, Nat.le_refl _⟩
      · obtain ⟨c, t, e, hc⟩ := row_head hr hn
        exact ⟨c, t, e, by omega⟩
    obtain ⟨t', e⟩ := join_head (s := sepS 32) (r := rows.map rowS) e
    exact ⟨c, t', e, hc⟩
theorem lists_dash {rows : List (List Int)} (h : RowsK rows) : listsS rows = "-" ↔ rows = [] := by
  refine ⟨fun e => Classical.byContradiction fun h0 => ?_, fun e => by unfold listsS; rw [if_pos e]⟩
  obtain ⟨c, t, e1, e2⟩ := lists_head h h0
  rw [e] at e1
  have : (45 : Nat) = c := (List.cons.inj e1).1
  omega
theorem lists_len {rows : List (List Int)} (h : RowsK rows) : (listsS rows).length ≤ 400000 := by
  unfold listsS
  split
  · decide
  · have h1 := join_len (s := sepS 32) (ws := rows.map rowS)
    have h2 := sum_len (ws := rows.map rowS) (b := 3100) fun w hw => by
      obtain ⟨i, hi, rfl⟩ := List.mem_map.mp hw
      exact row_len (h.2 i hi)
    have h3 : (sepS 32).length = 1 := rfl
    have h4 := h.1
    rw [h3] at h1
    rw [List.length_map] at h1 h2
    omega
theorem str_ok {s : Str} (h : ∀ c ∈ s.cps.toList, c < 128) : PyData.strOk s = true := by
  unfold PyData.strOk
  rw [Array.all_eq_true]
  intro i hi
  have := h s.cps[i] (by simp)
  rw [decide_eq_true_eq]
  omega
theorem rowS_ok {hs : List Int} (h : RowK hs) : PyData.strOk (rowS hs) = true := str_ok fun c hc => by
  have := row_cps h c hc
  omega
theorem lists_ok {rows : List (List Int)} (h : RowsK rows) : PyData.strOk (listsS rows) = true := str_ok fun c hc => by
  unfold listsS at hc
  split at hc
  · have : c = 45 := List.mem_singleton.mp hc
    omega
  · rw [PyProof.Rows.mem_join] at hc
    rcases hc with ⟨x, hx, hc⟩ | ⟨_, hc⟩
    · obtain ⟨r, hr, rfl⟩ := List.mem_map.mp hx
      have := row_cps (h.2 r hr) c hc
      omega
    · have : c = 32 := List.mem_singleton.mp hc
      omega
end G

namespace G
open PySem L2
local macro_rules | `(tactic| walk_at "g1") => `(tactic| first
  | (with_reducible show WE _ _ _; with_reducible first | refine we_var (by with_unfolding_all exact rfl) ?_ | (show WE (tOp _ _ _) _ _; first | refine we_ixS (by with_unfolding_all exact rfl) ?_ | refine we_ixScr (by with_unfolding_all exact rfl) ?_ | refine we_inS (by with_unfolding_all exact rfl) ?_ | refine we_notInS (by with_unfolding_all exact rfl) ?_ | refine we_eqS (by with_unfolding_all exact rfl) ?_ | refine we_neS (by with_unfolding_all exact rfl) ?_ | refine we_opK ?_) | (show WE (tCB _ _) _ _; first | refine we_lenS' (by with_unfolding_all exact rfl) ?_ | refine we_lenScr (by with_unfolding_all exact rfl) ?_ | refine we_cbK ?_) | refine we_int ?_ | refine we_bl ?_ | refine we_non ?_ | refine we_str ?_ | refine we_neg ?_ | refine we_not ?_ | refine we_and ?_ | refine we_or ?_ | refine we_if ?_ | refine we_tup ?_ | refine we_lst ?_ | refine we_call ?_ | refine we_mt (by with_unfolding_all exact rfl) ?_)
  | (with_reducible show WS _ _ _ _; with_reducible first | refine ws_seqA ?_ | refine ws_seqD ?_ | refine ws_asg (by with_unfolding_all exact rfl) ?_ | refine ws_asgG ?_ | refine ws_if ?_ | refine ws_ret ?_ | refine ws_drop ?_ | refine ws_next ?_ | refine ws_retN ?_)
  | (with_reducible show WT _ _ _; with_reducible first | refine wt_test ?_ | refine wt_B ?_ | refine wt_not ?_ | refine wt_and ?_ | refine wt_or ?_ | refine wt_yes ?_)
  | (with_reducible show WA _ _ _; with_reducible first | refine wa_nil ?_ | refine wa_cons (wq_of (we_var (by with_unfolding_all exact rfl) ?_)) | refine wa_slotU (by with_unfolding_all exact rfl) ?_ | refine wa_cons ?_)
  | (with_reducible show OpK _ _ _ _ _; with_reducible first | refine ok_plusI ?_ | refine ok_sub ?_ | refine ok_lt ?_ | refine ok_le ?_ | refine ok_gt ?_ | refine ok_ge ?_ | refine ok_eqI ?_ | refine ok_neI ?_ | refine ok_mod (by first | assumption | decide | omega) ?_ | refine ok_ixL (by with_unfolding_all exact rfl) ?_)
  | (with_reducible show CbK _ _ _ _; with_reducible first | refine ck_lenL ?_ | refine ck_lenT ?_ | refine ck_int ?_ | refine ck_intB ?_ | refine ck_max ?_ | refine ck_min ?_ | refine ck_list ?_)
  | with_reducible refine wq_of ?_
  | (with_reducible show WG _ _ _ _ _; with_reducible first | refine wg_name (by with_unfolding_all exact rfl) ?_ | refine wg_tup (by with_unfolding_all exact rfl) ?_ | refine wg_set (by with_unfolding_all exact rfl) ?_)
  | (with_reducible show WGs _ _ _ _ _; with_reducible first | refine wgs_cons ?_ | refine wgs_nil ?_)
  | with_reducible refine iteT ?_
  | with_reducible refine iteF ?_
  | with_reducible refine ⟨_, frz_per, ?_⟩
  | with_reducible refine ⟨_, frz_own, ?_⟩
  | refine ⟨_, rfl, ?_⟩
  | refine ⟨_, argD1, ?_⟩
  | refine ⟨_, argD2, ?_⟩
  | refine ⟨_, argD0, ?_⟩
  | refine ⟨_, argD3, ?_⟩
  | refine ⟨_, argD4, ?_⟩
  | refine ⟨_, _, rfl, rfl, rfl, ?_⟩
  | refine ⟨_, _, _, rfl, rfl, rfl, ?_⟩
  | refine ⟨(by simp only [List.length_cons, List.length_nil]; decide), ?_⟩
  | refine ⟨rfl, nd1, ?_⟩
  | refine ⟨rfl, nd0, ?_⟩)
local macro_rules | `(tactic| walk_at "go") => `(tactic| repeat walk_at "g1")
local macro_rules | `(tactic| walk_at "g2") => `(tactic| first
  | (with_reducible show WE _ _ _; with_reducible first | refine we_var (by with_unfolding_all exact rfl) ?_ | (show WE (tOp _ _ _) _ _; first | refine we_notN ?_ | refine we_ixS (by with_unfolding_all exact rfl) ?_ | refine we_ixScr (by with_unfolding_all exact rfl) ?_ | refine we_inS (by with_unfolding_all exact rfl) ?_ | refine we_notInS (by with_unfolding_all exact rfl) ?_ | refine we_eqS (by with_unfolding_all exact rfl) ?_ | refine we_neS (by with_unfolding_all exact rfl) ?_ | refine we_opK ?_) | (show WE (tCB _ _) _ _; first | refine we_isInt ?_ | refine we_isBl ?_ | refine we_isLst ?_ | refine we_isTup ?_ | refine we_lenO (by with_unfolding_all exact rfl) ?_ | refine we_lenS' (by with_unfolding_all exact rfl) ?_ | refine we_lenScr (by with_unfolding_all exact rfl) ?_ | refine we_cbK ?_) | refine we_chain ?_ | refine we_slice ?_ | refine we_int ?_ | refine we_bl ?_ | refine we_non ?_ | refine we_str ?_ | refine we_neg ?_ | refine we_not ?_ | refine we_and ?_ | refine we_or ?_ | refine we_if ?_ | refine we_tup ?_ | refine we_lst ?_ | refine we_call ?_ | refine we_mt (by with_unfolding_all exact rfl) ?_)
  | (with_reducible show WS _ _ _ _; with_reducible first | refine ws_seqA ?_ | refine ws_seqD ?_ | refine ws_asg (by with_unfolding_all exact rfl) ?_ | refine ws_asgG ?_ | refine ws_if ?_ | refine ws_ret ?_ | refine ws_drop ?_ | refine ws_next ?_ | refine ws_retN ?_)
  | (with_reducible show WT _ _ _; with_reducible first | refine wt_test ?_ | refine wt_B ?_ | refine wt_not ?_ | refine wt_and ?_ | refine wt_or ?_ | refine wt_yes ?_)
  | (with_reducible show WA _ _ _; with_reducible first | refine wa_nil ?_ | refine wa_cons (wq_of (we_var (by with_unfolding_all exact rfl) ?_)) | refine wa_slotU (by with_unfolding_all exact rfl) ?_ | refine wa_cons ?_)
  | (with_reducible show OpK _ _ _ _ _; with_reducible first | refine ok_isB ?_ | refine ok_notB ?_ | refine ok_plusI ?_ | refine ok_sub ?_ | refine ok_lt ?_ | refine ok_le ?_ | refine ok_gt ?_ | refine ok_ge ?_ | refine ok_eqI ?_ | refine ok_neI ?_ | refine ok_mod (by first | assumption | decide | omega) ?_ | refine ok_ixL (by with_unfolding_all exact rfl) ?_)
  | (with_reducible show CbK _ _ _ _; with_reducible first | refine ck_lenL ?_ | refine ck_lenT ?_ | refine ck_int ?_ | refine ck_intB ?_ | refine ck_max ?_ | refine ck_min ?_ | refine ck_list ?_)
  | with_reducible refine wq_of ?_
  | (with_reducible show WG _ _ _ _ _; with_reducible first | refine wg_name (by with_unfolding_all exact rfl) ?_ | refine wg_tup (by with_unfolding_all exact rfl) ?_ | refine wg_set (by with_unfolding_all exact rfl) ?_)
  | (with_reducible show WGs _ _ _ _ _; with_reducible first | refine wgs_cons ?_ | refine wgs_nil ?_)
  | (with_reducible show WO _ _ _; with_reducible first | refine wo_some ?_ | refine wo_none ?_)
  | refine ⟨_, argD5, ?_⟩
  | refine ⟨_, argD6, ?_⟩
  | refine ⟨_, argD7, ?_⟩
  | refine ⟨_, argD9, ?_⟩
  | with_reducible refine iteT ?_
  | with_reducible refine iteF ?_
  | with_reducible refine ⟨_, frz_per, ?_⟩
  | with_reducible refine ⟨_, frz_own, ?_⟩
  | refine ⟨_, rfl, ?_⟩
  | refine ⟨_, argD1, ?_⟩
  | refine ⟨_, argD2, ?_⟩
  | refine ⟨_, argD0, ?_⟩
  | refine ⟨_, argD3, ?_⟩
  | refine ⟨_, argD4, ?_⟩
  | refine ⟨_, _, rfl, rfl, rfl, ?_⟩
  | refine ⟨_, _, _, rfl, rfl, rfl, ?_⟩
  | refine ⟨(by simp only [List.length_cons, List.length_nil]; decide), ?_⟩
  | refine ⟨rfl, nd1, ?_⟩
  | refine ⟨rfl, nd0, ?_⟩)
local macro_rules | `(tactic| walk_at "w") => `(tactic| first
  | (with_reducible show WE _ _ _; with_reducible first | refine we_var (by with_unfolding_all exact rfl) ?_ | refine we_varF (by with_unfolding_all exact rfl) frz_own ?_ | (show WE (tOp _ _ _) _ _; first | refine we_isNd ?_ | refine we_notNd ?_ | refine we_notN ?_ | refine we_ixS (by with_unfolding_all exact rfl) ?_ | refine we_ixScr (by with_unfolding_all exact rfl) ?_ | refine we_inS (by with_unfolding_all exact rfl) ?_ | refine we_notInS (by with_unfolding_all exact rfl) ?_ | refine we_eqS (by with_unfolding_all exact rfl) ?_ | refine we_neS (by with_unfolding_all exact rfl) ?_ | refine we_opK ?_) | (show WE (tCB _ _) _ _; first | refine we_repr ?_ | refine we_isInt ?_ | refine we_isBl ?_ | refine we_isLst ?_ | refine we_isTup ?_ | refine we_lenO (by with_unfolding_all exact rfl) ?_ | refine we_lenS' (by with_unfolding_all exact rfl) ?_ | refine we_lenScr (by with_unfolding_all exact rfl) ?_ | refine we_cbK ?_) | refine we_dnew ?_ | refine we_lenSetI ?_ | refine we_revL ?_ | refine we_chain ?_ | refine we_slice ?_ | refine we_int ?_ | refine we_bl ?_ | refine we_non ?_ | refine we_str ?_ | refine we_neg ?_ | refine we_not ?_ | refine we_and ?_ | refine we_or ?_ | refine we_if ?_ | refine we_tup ?_ | refine we_lst ?_ | refine we_call ?_ | refine we_mt (by with_unfolding_all exact rfl) ?_)
  | (with_reducible show WS _ _ _ _; with_reducible first | refine ws_seqI ?_ | refine ws_seqA ?_ | refine ws_seqD ?_ | refine ws_asg (by with_unfolding_all exact rfl) ?_ | refine ws_asgG ?_ | refine ws_if ?_ | refine ws_ret ?_ | refine ws_drop ?_ | refine ws_next ?_ | refine ws_retN ?_)
  | (with_reducible show WT _ _ _; with_reducible first | refine wt_truL ?_ | refine wt_test ?_ | refine wt_B ?_ | refine wt_not ?_ | refine wt_and ?_ | refine wt_or ?_ | refine wt_yes ?_)
  | (with_reducible show WA _ _ _; with_reducible first | refine wa_nil ?_ | refine wa_cons (wq_of (we_var (by with_unfolding_all exact rfl) ?_)) | refine wa_slotU (by with_unfolding_all exact rfl) ?_ | refine wa_cons ?_)
  | (with_reducible show OpK _ _ _ _ _; with_reducible first | refine ok_neR ?_ | refine ok_eqR ?_ | refine ok_isB ?_ | refine ok_notB ?_ | refine ok_plusI ?_ | refine ok_sub ?_ | refine ok_lt ?_ | refine ok_le ?_ | refine ok_gt ?_ | refine ok_ge ?_ | refine ok_eqI ?_ | refine ok_neI ?_ | refine ok_mod (by first | assumption | decide | omega) ?_ | refine ok_ixL (by with_unfolding_all exact rfl) ?_)
  | (with_reducible show CbK _ _ _ _; with_reducible first | refine ck_tuple ?_ | refine ck_allF ?_ | refine ck_anyF ?_ | refine ck_abs ?_ | refine ck_sumI ?_ | refine ck_lenL ?_ | refine ck_lenT ?_ | refine ck_int ?_ | refine ck_intB ?_ | refine ck_max ?_ | refine ck_min ?_ | refine ck_list ?_)
  | with_reducible refine wq_of ?_
  | (with_reducible show WG _ _ _ _ _; with_reducible first | refine wg_name (by with_unfolding_all exact rfl) ?_ | refine wg_tup (by with_unfolding_all exact rfl) ?_ | refine wg_set (by with_unfolding_all exact rfl) ?_)
  | (with_reducible show WGs _ _ _ _ _; with_reducible first | refine wgs_cons ?_ | refine wgs_nil ?_)
  | (with_reducible show WO _ _ _; with_reducible first | refine wo_some ?_ | refine wo_none ?_)
  | refine ⟨_, argD5, ?_⟩
  | refine ⟨_, argD6, ?_⟩
  | refine ⟨_, argD7, ?_⟩
  | refine ⟨_, argD9, ?_⟩
  | with_reducible refine iteT ?_
  | with_reducible refine iteF ?_
  | with_reducible refine ⟨_, frz_per, ?_⟩
  | with_reducible refine ⟨_, frz_own, ?_⟩
  | refine ⟨_, rfl, ?_⟩
  | refine ⟨_, argD1, ?_⟩
  | refine ⟨_, argD2, ?_⟩
  | refine ⟨_, argD0, ?_⟩
  | refine ⟨_, argD3, ?_⟩
  | refine ⟨_, argD4, ?_⟩
  | refine ⟨_, _, rfl, rfl, rfl, ?_⟩
  | refine ⟨_, _, _, rfl, rfl, rfl, ?_⟩
  | refine ⟨(by simp only [List.length_cons, List.length_nil]; decide), ?_⟩
  | refine ⟨rfl, nd1, ?_⟩
  | refine ⟨rfl, nd0, ?_⟩
  | refine ⟨_, argD8, ?_⟩
  | refine ⟨_, argD10, ?_⟩)
local macro_rules | `(tactic| walk_at "v") => `(tactic| first
  | (with_reducible show WE _ _ _; with_reducible first | refine we_var (by with_unfolding_all exact rfl) ?_ | refine we_varF (by with_unfolding_all exact rfl) frz_own ?_ | (show WE (tOp _ _ _) _ _; first | refine we_isNd ?_ | refine we_notNd ?_ | refine we_notN ?_ | refine we_ixS (by with_unfolding_all exact rfl) ?_ | refine we_ixScr (by with_unfolding_all exact rfl) ?_ | refine we_inS (by with_unfolding_all exact rfl) ?_ | refine we_notInS (by with_unfolding_all exact rfl) ?_ | refine we_eqS (by with_unfolding_all exact rfl) ?_ | refine we_neS (by with_unfolding_all exact rfl) ?_ | refine we_opK ?_) | (show WE (tCB _ _) _ _; first | refine we_repr ?_ | refine we_lenWeb (by with_unfolding_all exact rfl) (by assumption) ?_ | refine we_isInt ?_ | refine we_isBl ?_ | refine we_isLst ?_ | refine we_isTup ?_ | refine we_lenO (by with_unfolding_all exact rfl) ?_ | refine we_lenS' (by with_unfolding_all exact rfl) ?_ | refine we_lenScr (by with_unfolding_all exact rfl) ?_ | refine we_cbK ?_) | refine we_dnew ?_ | refine we_lenSetI ?_ | refine we_revL ?_ | refine we_nbWeb (by with_unfolding_all exact rfl) (by assumption) (by assumption) ?_ | refine we_tiesWeb (by with_unfolding_all exact rfl) ?_ | refine we_chain ?_ | refine we_slice ?_ | refine we_int ?_ | refine we_bl ?_ | refine we_non ?_ | refine we_str ?_ | refine we_neg ?_ | refine we_not ?_ | refine we_and ?_ | refine we_or ?_ | refine we_if ?_ | refine we_tup ?_ | refine we_lst ?_ | refine we_call ?_ | refine we_mt (by with_unfolding_all exact rfl) ?_)
  | (with_reducible show WS _ _ _ _; with_reducible first | refine ws_seqI ?_ | refine ws_seqA ?_ | refine ws_seqD ?_ | refine ws_asg (by with_unfolding_all exact rfl) ?_ | refine ws_asgG ?_ | refine ws_if ?_ | refine ws_ret ?_ | refine ws_drop ?_ | refine ws_next ?_ | refine ws_retN ?_)
  | (with_reducible show WT _ _ _; with_reducible first | refine wt_truL ?_ | refine wt_test ?_ | refine wt_B ?_ | refine wt_not ?_ | refine wt_and ?_ | refine wt_or ?_ | refine wt_yes ?_)
  | (with_reducible show WA _ _ _; with_reducible first | refine wa_nil ?_ | refine wa_cons (wq_of (we_var (by with_unfolding_all exact rfl) ?_)) | refine wa_slotU (by with_unfolding_all exact rfl) ?_ | refine wa_cons ?_)
  | (with_reducible show OpK _ _ _ _ _; with_reducible first | refine ok_neR ?_ | refine ok_eqR ?_ | refine ok_isB ?_ | refine ok_notB ?_ | refine ok_plusI ?_ | refine ok_sub ?_ | refine ok_lt ?_ | refine ok_le ?_ | refine ok_gt ?_ | refine ok_ge ?_ | refine ok_eqI ?_ | refine ok_neI ?_ | refine ok_mod (by first | assumption | decide | omega) ?_ | refine ok_ixL (by with_unfolding_all exact rfl) ?_)
  | (with_reducible show CbK _ _ _ _; with_reducible first | refine ck_tuple ?_ | refine ck_allF ?_ | refine ck_anyF ?_ | refine ck_abs ?_ | refine ck_sumI ?_ | refine ck_lenL ?_ | refine ck_lenT ?_ | refine ck_int ?_ | refine ck_intB ?_ | refine ck_max ?_ | refine ck_min ?_ | refine ck_list ?_)
  | with_reducible refine wq_of ?_
  | (with_reducible show WG _ _ _ _ _; with_reducible first | refine wg_name (by with_unfolding_all exact rfl) ?_ | refine wg_tup (by with_unfolding_all exact rfl) ?_ | refine wg_set (by with_unfolding_all exact rfl) ?_)
  | (with_reducible show WGs _ _ _ _ _; with_reducible first | refine wgs_cons ?_ | refine wgs_nil ?_)
  | (with_reducible show WO _ _ _; with_reducible first | refine wo_some ?_ | refine wo_none ?_)
  | refine ⟨_, argD5, ?_⟩
  | refine ⟨_, argD6, ?_⟩
  | refine ⟨_, argD7, ?_⟩
  | refine ⟨_, argD9, ?_⟩
  | with_reducible refine iteT ?_
  | with_reducible refine iteF ?_
  | with_reducible refine ⟨_, frz_per, ?_⟩
  | with_reducible refine ⟨_, frz_own, ?_⟩
  | refine ⟨_, rfl, ?_⟩
  | refine ⟨_, argD1, ?_⟩
  | refine ⟨_, argD2, ?_⟩
  | refine ⟨_, argD0, ?_⟩
  | refine ⟨_, argD3, ?_⟩
  | refine ⟨_, argD4, ?_⟩
  | refine ⟨_, _, rfl, rfl, rfl, ?_⟩
  | refine ⟨_, _, _, rfl, rfl, rfl, ?_⟩
  | refine ⟨(by simp only [List.length_cons, List.length_nil]; decide), ?_⟩
  | refine ⟨rfl, nd1, ?_⟩
  | refine ⟨rfl, nd0, ?_⟩
  | refine ⟨_, argD8, ?_⟩
  | refine ⟨_, argD10, ?_⟩)
local macro_rules | `(tactic| walk_at "p") => `(tactic| refine ⟨_, _, rfl, (by omega), (by first | decide | omega), (by first | decide | omega), ?_⟩)
local macro_rules | `(tactic| walk_at "n") => `(tactic| try dsimp only [back, List.set_cons_zero, List.set_cons_succ, List.map_cons, List.map_nil, List.cons_append, List.nil_append])
local macro_rules | `(tactic| walk_at "q") => `(tactic| first | with_reducible refine ws_seqP (ws_par (by with_unfolding_all exact rfl) (by with_unfolding_all exact rfl) ?_) | refine ⟨_, _, rfl, ?_⟩ | walk_at "v")
theorem ctrue {ws : List Str} (h : ∀ w ∈ ws, intW w = true) : ws.all intW = true := List.all_eq_true.mpr h
abbrev t_word_of_hues_0 (K : PySem.W.Frag) : TS :=
  (tRet (tIf (tTru K (tVar 0)) (tM1 (rJoinS K) (tC (.str ",")) (tLc (iList K (tVar 0)) (gName 1) tYes (tCB (rStrI) (tCons (tVar 1) tNil)) [1])) (tC (.str "."))))
def t_word_of_hues (K : PySem.W.Frag) : TS :=
  (t_word_of_hues_0 K)
abbrev N_word_of_hues : List Str := ["hues", "hue"]
abbrev F_word_of_hues : Fw := fun gs kk xx => ∃ hs : List Int, gs = [dat (rowI hs)] ∧ RowK hs ∧ kk (dat (.str (rowS hs))) [none]
abbrev sp_word_of_hues (K : PySem.W.Frag) : Sp := SpG 1 F_word_of_hues
theorem pure_word_of_hues {K : PySem.W.Frag} {vs : List V} {H : Hp} {Q : VK} {E : XK} (h : sp_word_of_hues K vs H Q E) : t_word_of_hues K { nx := fun _ H' => Q .non H', rt := Q } (start N_word_of_hues vs) H := by
  refine body_ok (fun _ => false) ?_ h
  rintro gs kk xx ⟨hs, rfl, hr, hk⟩ -
  unfold t_word_of_hues
  show WS _ _ [some (dat (.list (hs.map .int))), none] _
  have hf := hr.few
  refine ws_ret (we_if (wt_truL (wq_of (we_var rfl ⟨_, frz_per, _, rfl, ?_⟩))))
  cases hs with
  | nil => exact iteF (we_str ⟨_, _, Ent.refl, les_none les_nil, hk⟩)
  | cons x xs =>
    refine iteT (we_join (wq_of (we_str ⟨_, frz_per, ",", rfl, wq_of ?_⟩)))
    refine we_lcM .int .str tS (wil_list (wq_of (we_var rfl ⟨_, frz_per, _, rfl, x :: xs, rfl, rfl, by omega, fun i hi => ?_, ?_⟩)))
    · refine wg_name rfl ?_
      walk_at "n"
      exact wq_of (we_cbK (wa_cons (wq_of (we_var rfl ⟨_, frz_per, wa_nil ⟨_, argD1, ck_strI (hue_log (hr.rng i hi)) ⟨_, frz_per, rfl, rfl⟩⟩⟩))))
    · have h2 := sum_len (ws := (x :: xs).map tS) (b := 30) fun w hw => by
        obtain ⟨i, hi, rfl⟩ := List.mem_map.mp hw
        exact hue_len (hr.rng i hi)
      rw [List.length_map] at h2
      refine ⟨_, frz_own, _, rfl, ?_, ?_⟩
      · show _ + _ * 1 ≤ _
        rw [List.length_map]
        omega
      · rw [txt_join, show Str.join "," ((x :: xs).map tS) = rowS (x :: xs) from by unfold rowS; rw [if_neg (by simp)]; rfl]
        exact ⟨_, _, Ent.refl, les_none les_nil, hk⟩
abbrev t_show_lists_0 (K : PySem.W.Frag) : TS :=
  (tRet (tIf (tTru K (tVar 0)) (tM1 (rJoinS K) (tC (.str " ")) (tLc (iList K (tVar 0)) (gName 1) tYes (tCall (sp_word_of_hues K) [] E0 (tCons (tVar 1) tNil)) [1])) (tC (.str "-"))))
def t_show_lists (K : PySem.W.Frag) : TS :=
  (t_show_lists_0 K)
abbrev N_show_lists : List Str := ["lists", "hues"]
abbrev F_show_lists : Fw := fun gs kk xx => ∃ rows : List (List Int), gs = [dat (.list (rows.map rowI))] ∧ RowsK rows ∧ kk (dat (.str (listsS rows))) [none]
abbrev sp_show_lists (K : PySem.W.Frag) : Sp := SpG 1 F_show_lists
theorem pure_show_lists {K : PySem.W.Frag} {vs : List V} {H : Hp} {Q : VK} {E : XK} (h : sp_show_lists K vs H Q E) : t_show_lists K { nx := fun _ H' => Q .non H', rt := Q } (start N_show_lists vs) H := by
  refine body_ok (fun _ => false) ?_ h
  rintro gs kk xx ⟨rows, rfl, hr, hk⟩ -
  unfold t_show_lists
  show WS _ _ [some (dat (.list (rows.map rowI))), none] _
  have hf := hr.1
  refine ws_ret (we_if (wt_truL (wq_of (we_var rfl ⟨_, frz_per, _, rfl, ?_⟩))))
  cases rows with
  | nil => exact iteF (we_str ⟨_, _, Ent.refl, les_none les_nil, hk⟩)
  | cons x xs =>
    refine iteT (we_join (wq_of (we_str ⟨_, frz_per, " ", rfl, wq_of ?_⟩)))
    refine we_lcM rowI .str rowS (wil_list (wq_of (we_var rfl ⟨_, frz_per, _, rfl, x :: xs, rfl, rfl, by omega, fun i hi => ?_, ?_⟩)))
    · refine wg_name rfl ?_
      walk_at "n"
      exact wq_of (we_call (wa_cons (wq_of (we_var rfl ⟨_, frz_per, wa_nil ⟨rfl, nd0, i, rfl, hr.2 i hi, _, frz_per, rfl, rfl⟩⟩))))
    · have h2 := sum_len (ws := (x :: xs).map rowS) (b := 3100) fun w hw => by
        obtain ⟨i, hi, rfl⟩ := List.mem_map.mp hw
        exact row_len (hr.2 i hi)
      rw [List.length_map] at h2
      refine ⟨_, frz_own, _, rfl, ?_, ?_⟩
      · show _ + _ * 1 ≤ _
        rw [List.length_map]
        omega
      · rw [txt_join, show Str.join " " ((x :: xs).map rowS) = listsS (x :: xs) from by unfold listsS; rw [if_neg (by simp)]; rfl]
        exact ⟨_, _, Ent.refl, les_none les_nil, hk⟩
abbrev t_hues_of_word_0 (K : PySem.W.Frag) : TS :=
  (tSeq (tAsg (tCall (sp_integers_of K) [] E0 (tCons (tM1 rSplitS (tVar 0) (tC (.str ","))) tNil)) (gName 1))
    (tRet (tIf (tB (tCall (sp_are_ascending_counts K) [] E0 (tCons (tVar 1) tNil))) (tVar 1) (tC .non))))
def t_hues_of_word (K : PySem.W.Frag) : TS :=
  (tSeq (tIfS (tTest (tOp (rEqD K) (tVar 0) (tC (.str ".")))) (tRet (tLst tNil)) tNext)
    (t_hues_of_word_0 K))
abbrev N_hues_of_word : List Str := ["word", "hues"]
abbrev F_hues_of_word : Fw := fun gs kk xx => ∃ hs : List Int, gs = [dat (.str (rowS hs))] ∧ RowK hs ∧ kk (own (hs.map .int)) [none]
abbrev sp_hues_of_word (K : PySem.W.Frag) : Sp := SpG 1 F_hues_of_word
theorem rowD_ok {hs : List Int} (h : RowK hs) : rowD (.list (hs.map .int)) = true := by
  show ((hs.map PyData.int).all cntD && upD (hs.map PyData.int)) = true
  rw [Bool.and_eq_true]
  refine ⟨?_, ?_⟩
  · rw [List.all_map, List.all_eq_true]
    intro x hx
    exact decide_eq_true (h.rng x hx).1
  · have key : ∀ l : List Int, l.Pairwise (· < ·) → upD (l.map PyData.int) = true := by
      intro l
      induction l with
      | nil => intro _; rfl
      | cons x l ih =>
        intro hp
        obtain ⟨h1, h2⟩ := List.pairwise_cons.mp hp
        cases l with
        | nil => rfl
        | cons y l =>
          show (decide (x < y) && upD ((y :: l).map PyData.int)) = true
          rw [ih h2, decide_eq_true (h1 y (by simp))]
          rfl
    exact key hs h.asc
theorem pure_hues_of_word {K : PySem.W.Frag} {vs : List V} {H : Hp} {Q : VK} {E : XK} (h : sp_hues_of_word K vs H Q E) : t_hues_of_word K { nx := fun _ H' => Q .non H', rt := Q } (start N_hues_of_word vs) H := by
  refine body_ok (fun _ => false) ?_ h
  rintro gs kk xx ⟨hs, rfl, hr, hk⟩ -
  unfold t_hues_of_word
  show WS _ _ [some (dat (.str (rowS hs))), none] _
  have hf := hr.few
  have hl := row_len hr
  refine ws_seqI (ws_if (wt_test (wq_of (we_opK (wq_of (we_var rfl ⟨_, frz_per, _, rfl, wq_of (we_str ⟨_, frz_per, _, rfl, ok_eq (lay_str (rowS_ok hr)).shaped (lay_str (by decide +kernel)).shaped ?_⟩)⟩))))))
  rw [eqv_str]
  refine ⟨_, frz_per, _, rfl, ?_⟩
  refine ite_dec (fun he => ?_) fun he => ws_next ?_
  · obtain rfl := (row_dot hr).mp he
    exact ws_ret (we_lst (wa_nil ⟨[], argD0, by simp, _, _, Ent.refl, les_none les_nil, hk⟩))
  · have h0 : hs ≠ [] := fun e => he ((row_dot hr).mpr e)
    refine ws_seq (ws_asg rfl (we_call (wa_cons (wq_of (we_split (wq_of (we_var rfl ⟨_, frz_per, _, rfl, wq_of (we_str ⟨_, frz_per, ",", rfl, by decide +kernel, by omega, ?_⟩)⟩)))))))
    rw [split_row hr h0]
    refine ⟨_, frz_own, wa_nil ⟨rfl, nd0, hs.map tS, rfl, fun x hx => ?_, by rw [List.length_map]; omega, .inl ⟨ctrue fun x hx => ?_, hs, ?_, ?_⟩⟩⟩
    · obtain ⟨i, hi, rfl⟩ := List.mem_map.mp hx
      have := hue_len (hr.rng i hi)
      omega
    · obtain ⟨i, hi, rfl⟩ := List.mem_map.mp hx
      exact hue_w (hr.rng i hi)
    · rw [List.map_map]
      exact List.map_congr_left fun i hi => hue_int (hr.rng i hi)
    walk_at "n"
    show WS _ _ [some (dat (.str (rowS hs))), some (own (hs.map .int))] _
    have st : Still [some (dat (.str (rowS hs))), some (own (hs.map .int))] [none, some (dat (.list (hs.map .int)))] := (StillL.non (.frz frz_own .nil)).still
    refine ws_ret (we_if (wt_B (wq_of (we_still st (we_call (wa_cons (wq_of (we_var rfl ⟨_, frz_per, wa_nil ⟨rfl, nd0, .list (hs.map .int), rfl, fun ds e => by cases e; rw [List.length_map]; omega, ?_⟩⟩))))))))
    refine ⟨_, rfl, rfl, _, frz_per, _, rfl, ?_⟩
    rw [rowD_ok hr]
    exact iteT (we_varM (i := 1) rfl ⟨_, _, Ent.refl, les_none les_nil, hk⟩)
abbrev t_read_lists_0 (K : PySem.W.Frag) (a : Ad) (E : XK) : TS :=
  (tSeq (tAsg (tLc (iList K (tM1 rSplitS (tVar 0) (tC (.str " ")))) (gName 2) tYes (tCall (sp_hues_of_word K) [] E0 (tCons (tVar 2) tNil)) [2]) (gName 1))
    (tSeq (tIfS (tTest (tOp (rInD K) (tC .non) (tVar 1))) (tRaise E (.ref (He.ga K "InvalidText"))) tNext)
    (tRet (tVar 1))))
abbrev t_read_lists_1 (K : PySem.W.Frag) (a : Ad) (E : XK) : TS :=
  (tSeq (tIfS (tNot (tB (tCB (rIsiA K) (tCons (tVar 0) (tCons (tC (.ty "str")) tNil))))) (tRaise E (.ref (He.ga K "InvalidText"))) tNext)
    (tSeq (tIfS (tTest (tOp (rEqD K) (tVar 0) (tC (.str "-")))) (tRet (tLst tNil)) tNext)
    (t_read_lists_0 K a E)))
def t_read_lists (K : PySem.W.Frag) (a : Ad) (E : XK) : TS :=
  (t_read_lists_1 K a E)
abbrev N_read_lists : List Str := ["text", "lists", "word"]
abbrev F_read_lists (a : Ad) : Fw := fun gs kk xx => ∃ rows : List (List Int), gs = [dat (.str (listsS rows))] ∧ RowsK rows ∧ kk (own2 (rows.map rowN)) [none]
abbrev sp_read_lists (K : PySem.W.Frag) (a : Ad) : Sp := SpG 1 (F_read_lists a)
theorem pure_read_lists {K : PySem.W.Frag} {a : Ad} {vs : List V} {H : Hp} {Q : VK} {E : XK} (h : sp_read_lists K a vs H Q E) : t_read_lists K a E { nx := fun _ H' => Q .non H', rt := Q } (start N_read_lists vs) H := by
  refine body_okX (fun _ => false) ?_ h
  rintro gs kk xx ⟨rows, rfl, hr, hk⟩ -
  unfold t_read_lists
  refine wsx_of ?_
  show WS _ _ [some (dat (.str (listsS rows))), none, none] _
  have hf := hr.1
  have hl := lists_len hr
  refine ws_seqI (ws_if (wt_not (wt_B (wq_of (we_isi (wq_of (we_var rfl ⟨_, frz_per, .str (listsS rows), rfl, "str", true, rfl, by decide +kernel, _, frz_per, _, rfl, iteF (ws_next ?_)⟩)))))))
  refine ws_seqI (ws_if (wt_test (wq_of (we_opK (wq_of (we_var rfl ⟨_, frz_per, _, rfl, wq_of (we_str ⟨_, frz_per, _, rfl, ok_eq (lay_str (lists_ok hr)).shaped (lay_str (by decide +kernel)).shaped ?_⟩)⟩))))))
  rw [eqv_str]
  refine ⟨_, frz_per, _, rfl, ?_⟩
  refine ite_dec (fun he => ?_) fun he => ws_next ?_
  · obtain rfl := (lists_dash hr).mp he
    exact ws_ret (we_lst (wa_nil ⟨[], argD0, by simp, _, _, own_nil2, les_none les_nil, hk⟩))
  · have h0 : rows ≠ [] := fun e => he ((lists_dash hr).mpr e)
    refine ws_seq (ws_asg rfl (we_lcO (fun i dss Γ => Γ = [some (dat (.str (listsS rows))), none, none] ∧ dss = (rows.take i).map rowN) ?_))
    refine wi_list (wq_of (we_split (wq_of (we_var rfl ⟨_, frz_per, _, rfl, wq_of (we_str ⟨_, frz_per, " ", rfl, by decide +kernel, by omega, ?_⟩)⟩))))
    rw [split_lists hr h0]
    refine ⟨_, frz_own, _, rfl, by rw [List.length_map, List.length_map]; omega, ⟨rfl, rfl⟩, ?_, ?_⟩
    · rintro dss _ ⟨rfl, rfl⟩
      rw [List.length_map, List.length_map, List.take_length]
      walk_at "n"
      show WS _ _ [some (dat (.str (listsS rows))), some (own2 (rows.map rowN)), none] _
      have fz : Frz (own2 (rows.map rowN)) (dP (.list (rows.map rowI))) := by
        have e := frz_own2 (dss := rows.map rowN)
        rw [List.map_map] at e
        exact e
      have st : Still [some (dat (.str (listsS rows))), some (own2 (rows.map rowN)), none] [none, some (dat (.list (rows.map rowI))), none] := (StillL.non (.frz fz (.non .nil))).still
      refine ws_seqI (ws_if (wt_test (wq_of (we_still st (we_opK (wq_of (we_non ⟨_, frz_per, _, rfl, wq_of (we_var rfl ⟨_, frz_per, _, rfl, ok_in lay_none.shaped lay_rowsI.shaped ?_⟩)⟩)))))))
      rw [show ((rows.map rowI).any fun z => PyData.eqv z .none) = false from by
        rw [List.any_map, List.any_eq_false]
        intro t _ h
        simp [rowI, PyData.eqv] at h]
      refine ⟨_, rfl, rfl, _, frz_per, _, rfl, iteF (ws_next ?_)⟩
      exact ws_ret (we_varM (i := 1) rfl ⟨_, _, Ent.refl, les_none les_nil, hk⟩)
    · rintro i dss _ hi ⟨rfl, rfl⟩ -
      rw [List.length_map, List.length_map] at hi
      obtain ⟨r, hri⟩ : ∃ r, rows[i]? = some r := ⟨rows[i], List.getElem?_eq_getElem hi⟩
      have e : ((rows.map rowS).map PyData.str).getD i .none = .str (rowS r) := by
        rw [List.getD_eq_getElem?_getD, List.getElem?_map, List.getElem?_map, hri]; rfl
      show WG _ _ (dP (((rows.map rowS).map PyData.str).getD i .none)) _ _
      rw [e]
      refine wg_name rfl ?_
      walk_at "n"
      refine we_call (wa_cons (wq_of (we_var rfl ⟨_, frz_per, wa_nil ⟨rfl, nd0, r, rfl, hr.2 r (List.mem_of_getElem? hri), _, rfl, rfl, ?_⟩⟩)))
      rw [List.take_add_one, hri, List.map_append]
      rfl
end G

/-! ### list(zip(xs, ys)) -/
namespace GZL
open PySem PySem.Spec PyProof.Rows L2
structure Zs (h : Heap) (z TI TO i1 i2 l1 l2 S : Addr) (xs ys : Array Value) (i : Nat) : Prop where
  fst : (IsZip h z TI TO .none ∧ ∃ a b, IsPair h TO a b) ∨ ∃ (T : Addr) (f : Bool) (oT : Obj), IsZipHeld h z TI TO T f ∧ h.get? T = some oT ∧ T ≠ z ∧ T ≠ TO ∧ T ≠ i1 ∧ T ≠ i2 ∧ T ≠ S
  to : ∃ o, h.get? TO = some o
  ti : IsPair h TI (.ref i1) (.ref i2)
  j1 : h.IsListIter i1 l1 i
  j2 : h.IsListIter i2 l2 i
  a1 : h.IsList l1 xs
  a2 : h.IsList l2 ys
structure Its (h : Heap) (z TO i1 i2 S base : Addr) (xs ys acc : Array Value) (i : Nat) : Prop where
  size : acc.size = i
  at_ : ∀ j x y, j < i → xs[j]? = some x → ys[j]? = some y → ∃ T, acc[j]? = some (.ref T) ∧ IsPair h T x y ∧ T ≠ z ∧ T ≠ TO ∧ T ≠ i1 ∧ T ≠ i2 ∧ T ≠ S ∧ base ≤ T
  nd : ∀ (j k : Nat) (T : Addr), j < k → acc[j]? = some (.ref T) → acc[k]? ≠ some (.ref T)
section
variable {z TI TO i1 i2 l1 l2 S base : Addr} {xs ys : Array Value}
theorem Its.keep {h h' : Heap} {acc : Array Value} {i : Nat} (I : Its h z TO i1 i2 S base xs ys acc i) (k : ∀ (c : Addr) (o : Obj), c ≠ z → c ≠ TO → c ≠ i1 → c ≠ i2 → c ≠ S → h.get? c = some o → h'.get? c = some o) : Its h' z TO i1 i2 S base xs ys acc i :=
  ⟨I.size, fun j x y hj hx hy => by
    obtain ⟨T, a, b, n1, n2, n3, n4, n5, n6⟩ := I.at_ j x y hj hx hy
    exact ⟨T, a, k T _ n1 n2 n3 n4 n5 b, n1, n2, n3, n4, n5, n6⟩, I.nd⟩
theorem loop (ap : ZipApart z TI TO i1 i2 l1 l2) (Sz : S ≠ z) (STI : S ≠ TI) (STO : S ≠ TO) (S1 : S ≠ i1) (S2 : S ≠ i2) (Sl1 : S ≠ l1) (Sl2 : S ≠ l2) (few : min xs.size ys.size ≤ 100000) :
    ∀ (k i : Nat), min xs.size ys.size - i = k → i ≤ min xs.size ys.size → Meets (Builtin.«list.extend.loop» { pos := [.ref S, .ref z, .none] }) fun A R s =>
      A.handled = none ∧ Zs s.heap z TI TO i1 i2 l1 l2 S xs ys i ∧ (∃ acc c, s.heap.get? S = some (seqObj "list" acc c) ∧ Its s.heap z TO i1 i2 S base xs ys acc i) ∧ base ≤ s.heap.objs.size ∧
      ∀ h' acc c, h'.get? S = some (seqObj "list" acc c) → Its h' z TO i1 i2 S base xs ys acc (min xs.size ys.size) → (∀ (c : Addr) (o : Obj), c ≠ z → c ≠ TO → c ≠ i1 → c ≠ i2 → c ≠ S → s.heap.get? c = some o → h'.get? c = some o) → R (.ok (.ret .none)) { s with heap := h' } := by
  intro k
  induction k with
  | zero =>
    intro i hk hi prog w A R s ⟨hA, Z, ⟨acc, c, hS, I⟩, hb, hR⟩
    have hi : i = min xs.size ys.size := by omega
    have hend : xs[i]? = none ∨ ys[i]? = none := by
      rcases Nat.le_total xs.size ys.size with h | h
      · exact .inl (Array.getElem?_eq_none (by omega))
      · exact .inr (Array.getElem?_eq_none (by omega))
    rw [hi] at I
    have fin : ∀ h' : Heap, (∀ (c : Addr) (o : Obj), c ≠ z → c ≠ TO → c ≠ i1 → c ≠ i2 → s.heap.get? c = some o → h'.get? c = some o) → R (.ok (.ret .none)) { s with heap := h' } := fun h' kp =>
      hR h' acc c (kp S _ Sz STO S1 S2 hS) (I.keep fun c o n1 n2 n3 n4 _ e => kp c o n1 n2 n3 n4 e) fun c o n1 n2 n3 n4 _ e => kp c o n1 n2 n3 n4 e
    refine wpAny_bind ?_
    rcases Z.fst with ⟨hz, a, b, hto⟩ | ⟨T, f, oT, hz, hT, n1, n2, n3, n4, n5⟩
    · exact wpAny_pyNext_zip_end hA ap hz Z.ti hto Z.j1 Z.j2 Z.a1 Z.a2 hend fun h' kp => wpAny_pure (fin h' kp)
    · exact wpAny_pyNext_zip_end_held hA ap hz hT Z.ti Z.j1 Z.j2 Z.a1 Z.a2 hend fun h' kp => wpAny_pure (fin h' fun c o m1 _ m3 m4 e => kp c o m1 m3 m4 e)
  | succ k ih =>
    intro i hk hi prog w A R s ⟨hA, Z, ⟨acc, c, hS, I⟩, hb, hR⟩
    have hx : xs[i]? = some (xs[i]'(by omega)) := Array.getElem?_eq_getElem (by omega)
    have hy : ys[i]? = some (ys[i]'(by omega)) := Array.getElem?_eq_getElem (by omega)
    generalize xs[i]'(by omega) = x at hx
    generalize ys[i]'(by omega) = y at hy
    have lt : ∀ {c : Addr} {o : Obj}, s.heap.get? c = some o → c ≠ s.heap.objs.size := fun {c o} e h => Nat.lt_irrefl c (by have := Heap.lt_size e; rw [← h] at this; exact this)
    obtain ⟨o1, e1, _⟩ := id Z.j1
    obtain ⟨o2, e2, _⟩ := id Z.j2
    have nS := lt hS
    have n1 := lt e1
    have n2 := lt e2
    have next : ∀ h' : Heap, (∃ (T : Addr) (f : Bool) (oT : Obj), IsZipHeld h' z TI TO T f ∧ h'.get? T = some oT ∧ T ≠ z ∧ T ≠ TO ∧ T ≠ i1 ∧ T ≠ i2 ∧ T ≠ S) → (∃ o, h'.get? TO = some o) → s.heap.objs.size ≠ z → s.heap.objs.size ≠ TO → h'.IsListIter i1 l1 (i + 1) → h'.IsListIter i2 l2 (i + 1) → IsPair h' s.heap.objs.size x y → h'.objs.size = s.heap.objs.size + 1 →
        (∀ (c : Addr) (o : Obj), c ≠ z → c ≠ TO → c ≠ i1 → c ≠ i2 → s.heap.get? c = some o → h'.get? c = some o) →
        wpAny (model prog w) A.in1 (do Builtin.List.listUpdate (.ref S) fun x_1 => x_1.push (.ref s.heap.objs.size); again (Code.builtin "list.extend.loop" { pos := [.ref S, .ref z, .none] }))
          (fun fin s' => match fin with | Fin.done f => R (.ok f) s' | Fin.again c' => c'.quiet = true ∧ codeAny (model prog w) A c' R s') (fun e s' => R (.error e) s') { s with heap := h' } := by
      intro h' hh hto' nz nTO hj1 hj2 hp hsz kp
      have hS' := kp S _ Sz STO S1 S2 hS
      refine wpAny_bind (wpAny_updateSeq hS' rfl ?_ (by rw [I.size, sizeLine_eq]; omega) (by rw [Array.size_push, I.size, sizeLine_eq]; omega))
      have self := Heap.get?_update_self (Obj.mapSeq fun x => x.push (.ref s.heap.objs.size)) hS' rfl
      have oth : ∀ (c : Addr) (o : Obj), c ≠ S → h'.get? c = some o → (h'.update S (Obj.mapSeq fun x => x.push (.ref s.heap.objs.size))).get? c = some o := fun c o hc e => (Heap.get?_update_other h' _ (Ne.symm hc)).trans e
      obtain ⟨T, f, oT, hz, hT, m1, m2, m3, m4, m5⟩ := hh
      refine MeetsSeq.meets_again rfl F.plain_extend_loop F.entry_extend_loop (ih (i + 1) (by omega) (by omega)) prog w A R _ ⟨hA, ⟨.inr ⟨T, f, oT, oth z _ (Ne.symm Sz) hz, oth T _ m5 hT, m1, m2, m3, m4, m5⟩, hto'.imp fun o e => oth TO o (Ne.symm STO) e, oth TI _ (Ne.symm STI) (kp TI _ ap.TIz ap.TITO ap.TIi1 ap.TIi2 Z.ti), ?_, ?_, ?_, ?_⟩, ⟨_, _, self, ?_, fun j x' y' hj hx' hy' => ?_, fun j k T' hjk e1 e2 => ?_⟩, ?_, fun h2 acc2 c2 q1 q2 q3 => hR h2 acc2 c2 q1 q2 fun c o k1 k2 k3 k4 k5 e => q3 c o k1 k2 k3 k4 k5 (oth c o k5 (kp c o k1 k2 k3 k4 e))⟩
      · obtain ⟨o, a, b⟩ := hj1
        exact ⟨o, oth i1 _ (Ne.symm S1) a, b⟩
      · obtain ⟨o, a, b⟩ := hj2
        exact ⟨o, oth i2 _ (Ne.symm S2) a, b⟩
      · obtain ⟨o, a, b⟩ := Z.a1
        exact ⟨o, oth l1 _ (Ne.symm Sl1) (kp l1 _ ap.l1z ap.l1TO ap.l1i1 ap.l1i2 a), b⟩
      · obtain ⟨o, a, b⟩ := Z.a2
        exact ⟨o, oth l2 _ (Ne.symm Sl2) (kp l2 _ ap.l2z ap.l2TO ap.l2i1 ap.l2i2 a), b⟩
      · show (acc.push _).size = i + 1
        rw [Array.size_push, I.size]
      · by_cases c : j < i
        · obtain ⟨T', t1, t2, t3, t4, t5, t6, t7, t8⟩ := I.at_ j x' y' c hx' hy'
          refine ⟨T', ?_, oth T' _ t7 (kp T' _ t3 t4 t5 t6 t2), t3, t4, t5, t6, t7, t8⟩
          rw [Array.getElem?_push, if_neg (by rw [I.size]; omega)]
          exact t1
        · obtain rfl : j = i := by omega
          rw [hx] at hx'
          rw [hy] at hy'
          cases hx'
          cases hy'
          refine ⟨s.heap.objs.size, ?_, oth _ _ (Ne.symm nS) hp, nz, nTO, Ne.symm n1, Ne.symm n2, Ne.symm nS, hb⟩
          rw [Array.getElem?_push, if_pos (by rw [I.size])]
      · have e1 : (acc.push (.ref s.heap.objs.size))[j]? = some (.ref T') := e1
        have e2 : (acc.push (.ref s.heap.objs.size))[k]? = some (.ref T') := e2
        rw [Array.getElem?_push] at e1 e2
        by_cases c : k = acc.size
        · rw [if_pos c] at e2
          rw [if_neg (by omega)] at e1
          have hji : j < i := by rw [I.size] at c; omega
          obtain ⟨T2, t1, t2, _⟩ := I.at_ j _ _ hji (Array.getElem?_eq_getElem (by omega)) (Array.getElem?_eq_getElem (by omega))
          rw [t1] at e1
          cases e1
          cases e2
          exact lt t2 rfl
        · rw [if_neg c] at e2
          have := (Array.getElem?_eq_some_iff.mp e2).1
          rw [if_neg (by omega)] at e1
          exact I.nd j k T' hjk e1 e2
      · show base ≤ (h'.update S _).objs.size
        rw [Heap.size_update, hsz]
        exact Nat.le_succ_of_le hb
    refine wpAny_bind ?_
    rcases Z.fst with ⟨hz, a, b, hto⟩ | ⟨T, f, oT, hz, hT, m1, m2, m3, m4, m5⟩
    · refine wpAny_pyNext_zip_item ap hz Z.ti hto Z.j1 Z.j2 Z.a1 Z.a2 hx hy fun h' z1 z2 z3 z4 z5 z6 z7 => ?_
      exact next h' ⟨s.heap.objs.size, false, _, z1, z5, Ne.symm (lt hz), Ne.symm (lt hto), Ne.symm n1, Ne.symm n2, Ne.symm nS⟩ ⟨_, z2⟩ (Ne.symm (lt hz)) (Ne.symm (lt hto)) z3 z4 z5 z6 z7
    · refine wpAny_pyNext_zip_item_held ap hz hT Z.ti Z.j1 Z.j2 Z.a1 Z.a2 hx hy fun h' z1 z3 z4 z5 z6 z7 => ?_
      obtain ⟨oo, ho⟩ := Z.to
      exact next h' ⟨T, true, oT, z1, z7 T _ m1 m3 m4 hT, m1, m2, m3, m4, m5⟩ ⟨oo, z7 TO _ ap.TOz ap.TOi1 ap.TOi2 ho⟩ (Ne.symm (lt hz)) (Ne.symm (lt ho)) z3 z4 z5 z6 fun c o k1 _ k3 k4 e => z7 c o k1 k3 k4 e
end
end GZL
namespace G
open PySem PySem.Spec PyProof.Rows L2
end G
namespace G
open PySem L2
end G

namespace G
open PySem PySem.Spec PyProof.Rows L2
section
variable {K : PySem.W.Frag} {P : Nat → Bool} {Γ : Ga} {D : Pe} {k : Gp → Ga → Prop} {te ta tb : TE}
/-- xs.append(e), e a fresh list, xs a list of lists of one's own -/
theorem we_app2 {i : Nat} {dss0 : List (List PyData)} (h : Γ[i]? = some (some (own2 dss0))) (ht : WE te Γ fun g Γ1 => ∃ ds dss, g = own ds ∧ Γ1[i]? = some (some (own2 dss)) ∧ dss.length < 90000 ∧ k (dat .none) (Γ1.set i (some (own2 (dss ++ [ds]))))) :
    WE (tBM K "list" rAppend (tVar i) (tCons te tNil)) Γ k := fun ω σ H S Q f => by
  obtain ⟨v, e, a0, bs0, rfl, ha0, _⟩ := S.2 i _ h
  refine ⟨.ref a0, e, .inl ⟨rfl, _, SqL.of (vw_H ha0)⟩, ht ω σ H S _ fun w g Γ1 ω1 H1 ⟨ds, dss, eg, hi1, hl, hk⟩ S1 p f1 => ?_⟩
  subst eg
  obtain ⟨v', e', a, bs, rfl, ha, nd, hb⟩ := S1.2 i _ hi1
  rw [e] at e'
  cases e'
  obtain ⟨b, ys, rfl, hbp, hds⟩ := p
  have ca := vw_c ha
  have cb := vw_c hbp
  have ab : a0 ≠ b := fun z => by rw [z, cb] at ca; omega
  have cbs : ∀ c ∈ bs, ω1 c = i + 3 := fun c hc => by
    obtain ⟨t, ht⟩ := List.getElem?_of_mem hc
    have hlt : t < dss.length := by rw [← hb.1]; exact (List.getElem?_eq_some_iff.mp ht).1
    obtain ⟨zs, h1, _⟩ := hb.2 t c dss[t] ht (List.getElem?_eq_getElem hlt)
    exact vw_c h1
  have bbs : b ∉ bs := fun h => by have := cbs b h; omega
  obtain ⟨nd1, nd2⟩ := List.nodup_cons.mp nd
  refine ⟨a0, bs.map V.ref, .ref b, rfl, rfl, vw_H ha, by rw [List.length_map, hb.1]; exact Nat.lt_of_lt_of_le hl (by decide), ?_⟩
  let ω2 : Col := paint ω1 b (i + 3)
  have keep : ∀ d, d ≠ 2 → d ≠ i + 3 → Same (vw ω1 H1 d) (vw ω2 (upd H1 a0 (.lst (bs.map V.ref ++ [.ref b]))) d) := fun d d2 d3 c o z => by
    have hc := vw_c z
    have n1 : c ≠ b := fun e => d2 (by rw [← hc, e, cb])
    have n2 : c ≠ a0 := fun e => d3 (by rw [← hc, e, ca])
    exact vw_mk (by show paint ω1 b (i + 3) c = d; unfold paint; rw [if_neg n1]; exact hc) (by rw [upd_ne n2]; exact vw_H z)
  have s0 := keep 0 (by decide) (by omega)
  refine f .non _ _ ω2 _ hk (S1.set s0 (fun j g' hne _ => keep _ (by omega) (by omega)) e ⟨a0, bs ++ [b], rfl, vw_mk ?_ (by rw [upd_same]; simp), ?_, ?_, fun t c ds' e1 e2 => ?_⟩) DR.non (f1.trans ⟨s0, keep 1 (by decide) (by omega)⟩)
  · show paint ω1 b (i + 3) a0 = i + 3
    unfold paint
    rw [if_neg ab]
    exact ca
  · rw [List.nodup_cons]
    refine ⟨by simp [nd1, ab], List.nodup_append.mpr ⟨nd2, by simp, fun x hx y hy e => bbs (by rw [← List.mem_singleton.mp hy, ← e]; exact hx)⟩⟩
  · simp [hb.1]
  · by_cases ht : t < bs.length
    · rw [List.getElem?_append_left ht] at e1
      rw [List.getElem?_append_left (by rw [← hb.1]; exact ht)] at e2
      obtain ⟨zs, h1, h2⟩ := hb.2 t c ds' e1 e2
      have hm := List.mem_of_getElem? e1
      have n1 : c ≠ b := fun e => bbs (e ▸ hm)
      have n2 : c ≠ a0 := fun e => nd1 (e ▸ hm)
      exact ⟨zs, vw_mk (by show paint ω1 b (i + 3) c = i + 3; unfold paint; rw [if_neg n1]; exact vw_c h1) (by rw [upd_ne n2]; exact vw_H h1), h2.mono s0⟩
    · have et : t = bs.length := by
        have := (List.getElem?_eq_some_iff.mp e1).1
        rw [List.length_append] at this
        have : t < bs.length + 1 := this
        omega
      subst et
      rw [List.getElem?_append_right (Nat.le_refl _), Nat.sub_self] at e1
      rw [hb.1, List.getElem?_append_right (Nat.le_refl _), Nat.sub_self] at e2
      cases e1
      cases e2
      exact ⟨ys, vw_mk (by show paint ω1 b (i + 3) b = i + 3; unfold paint; rw [if_pos rfl]) (by rw [upd_ne (Ne.symm ab)]; exact vw_H hbp), hds.mono s0⟩
end
end G

namespace G
open PySem L2
local macro_rules | `(tactic| walk_at "g1") => `(tactic| first
  | (with_reducible show WE _ _ _; with_reducible first | refine we_var (by with_unfolding_all exact rfl) ?_ | (show WE (tOp _ _ _) _ _; first | refine we_ixS (by with_unfolding_all exact rfl) ?_ | refine we_ixScr (by with_unfolding_all exact rfl) ?_ | refine we_inS (by with_unfolding_all exact rfl) ?_ | refine we_notInS (by with_unfolding_all exact rfl) ?_ | refine we_eqS (by with_unfolding_all exact rfl) ?_ | refine we_neS (by with_unfolding_all exact rfl) ?_ | refine we_opK ?_) | (show WE (tCB _ _) _ _; first | refine we_lenS' (by with_unfolding_all exact rfl) ?_ | refine we_lenScr (by with_unfolding_all exact rfl) ?_ | refine we_cbK ?_) | refine we_int ?_ | refine we_bl ?_ | refine we_non ?_ | refine we_str ?_ | refine we_neg ?_ | refine we_not ?_ | refine we_and ?_ | refine we_or ?_ | refine we_if ?_ | refine we_tup ?_ | refine we_lst ?_ | refine we_call ?_ | refine we_mt (by with_unfolding_all exact rfl) ?_)
  | (with_reducible show WS _ _ _ _; with_reducible first | refine ws_seqA ?_ | refine ws_seqD ?_ | refine ws_asg (by with_unfolding_all exact rfl) ?_ | refine ws_asgG ?_ | refine ws_if ?_ | refine ws_ret ?_ | refine ws_drop ?_ | refine ws_next ?_ | refine ws_retN ?_)
  | (with_reducible show WT _ _ _; with_reducible first | refine wt_test ?_ | refine wt_B ?_ | refine wt_not ?_ | refine wt_and ?_ | refine wt_or ?_ | refine wt_yes ?_)
  | (with_reducible show WA _ _ _; with_reducible first | refine wa_nil ?_ | refine wa_cons (wq_of (we_var (by with_unfolding_all exact rfl) ?_)) | refine wa_slotU (by with_unfolding_all exact rfl) ?_ | refine wa_cons ?_)
  | (with_reducible show OpK _ _ _ _ _; with_reducible first | refine ok_plusI ?_ | refine ok_sub ?_ | refine ok_lt ?_ | refine ok_le ?_ | refine ok_gt ?_ | refine ok_ge ?_ | refine ok_eqI ?_ | refine ok_neI ?_ | refine ok_mod (by first | assumption | decide | omega) ?_ | refine ok_ixL (by with_unfolding_all exact rfl) ?_)
  | (with_reducible show CbK _ _ _ _; with_reducible first | refine ck_lenL ?_ | refine ck_lenT ?_ | refine ck_int ?_ | refine ck_intB ?_ | refine ck_max ?_ | refine ck_min ?_ | refine ck_list ?_)
  | with_reducible refine wq_of ?_
  | (with_reducible show WG _ _ _ _ _; with_reducible first | refine wg_name (by with_unfolding_all exact rfl) ?_ | refine wg_tup (by with_unfolding_all exact rfl) ?_ | refine wg_set (by with_unfolding_all exact rfl) ?_)
  | (with_reducible show WGs _ _ _ _ _; with_reducible first | refine wgs_cons ?_ | refine wgs_nil ?_)
  | with_reducible refine iteT ?_
  | with_reducible refine iteF ?_
  | with_reducible refine ⟨_, frz_per, ?_⟩
  | with_reducible refine ⟨_, frz_own, ?_⟩
  | refine ⟨_, rfl, ?_⟩
  | refine ⟨_, argD1, ?_⟩
  | refine ⟨_, argD2, ?_⟩
  | refine ⟨_, argD0, ?_⟩
  | refine ⟨_, argD3, ?_⟩
  | refine ⟨_, argD4, ?_⟩
  | refine ⟨_, _, rfl, rfl, rfl, ?_⟩
  | refine ⟨_, _, _, rfl, rfl, rfl, ?_⟩
  | refine ⟨(by simp only [List.length_cons, List.length_nil]; decide), ?_⟩
  | refine ⟨rfl, nd1, ?_⟩
  | refine ⟨rfl, nd0, ?_⟩)
local macro_rules | `(tactic| walk_at "go") => `(tactic| repeat walk_at "g1")
local macro_rules | `(tactic| walk_at "g2") => `(tactic| first
  | (with_reducible show WE _ _ _; with_reducible first | refine we_var (by with_unfolding_all exact rfl) ?_ | (show WE (tOp _ _ _) _ _; first | refine we_notN ?_ | refine we_ixS (by with_unfolding_all exact rfl) ?_ | refine we_ixScr (by with_unfolding_all exact rfl) ?_ | refine we_inS (by with_unfolding_all exact rfl) ?_ | refine we_notInS (by with_unfolding_all exact rfl) ?_ | refine we_eqS (by with_unfolding_all exact rfl) ?_ | refine we_neS (by with_unfolding_all exact rfl) ?_ | refine we_opK ?_) | (show WE (tCB _ _) _ _; first | refine we_isInt ?_ | refine we_isBl ?_ | refine we_isLst ?_ | refine we_isTup ?_ | refine we_lenO (by with_unfolding_all exact rfl) ?_ | refine we_lenS' (by with_unfolding_all exact rfl) ?_ | refine we_lenScr (by with_unfolding_all exact rfl) ?_ | refine we_cbK ?_) | refine we_chain ?_ | refine we_slice ?_ | refine we_int ?_ | refine we_bl ?_ | refine we_non ?_ | refine we_str ?_ | refine we_neg ?_ | refine we_not ?_ | refine we_and ?_ | refine we_or ?_ | refine we_if ?_ | refine we_tup ?_ | refine we_lst ?_ | refine we_call ?_ | refine we_mt (by with_unfolding_all exact rfl) ?_)
  | (with_reducible show WS _ _ _ _; with_reducible first | refine ws_seqA ?_ | refine ws_seqD ?_ | refine ws_asg (by with_unfolding_all exact rfl) ?_ | refine ws_asgG ?_ | refine ws_if ?_ | refine ws_ret ?_ | refine ws_drop ?_ | refine ws_next ?_ | refine ws_retN ?_)
  | (with_reducible show WT _ _ _; with_reducible first | refine wt_test ?_ | refine wt_B ?_ | refine wt_not ?_ | refine wt_and ?_ | refine wt_or ?_ | refine wt_yes ?_)
  | (with_reducible show WA _ _ _; with_reducible first | refine wa_nil ?_ | refine wa_cons (wq_of (we_var (by with_unfolding_all exact rfl) ?_)) | refine wa_slotU (by with_unfolding_all exact rfl) ?_ | refine wa_cons ?_)
  | (with_reducible show OpK _ _ _ _ _; with_reducible first | refine ok_isB ?_ | refine ok_notB ?_ | refine ok_plusI ?_ | refine ok_sub ?_ | refine ok_lt ?_ | refine ok_le ?_ | refine ok_gt ?_ | refine ok_ge ?_ | refine ok_eqI ?_ | refine ok_neI ?_ | refine ok_mod (by first | assumption | decide | omega) ?_ | refine ok_ixL (by with_unfolding_all exact rfl) ?_)
  | (with_reducible show CbK _ _ _ _; with_reducible first | refine ck_lenL ?_ | refine ck_lenT ?_ | refine ck_int ?_ | refine ck_intB ?_ | refine ck_max ?_ | refine ck_min ?_ | refine ck_list ?_)
  | with_reducible refine wq_of ?_
  | (with_reducible show WG _ _ _ _ _; with_reducible first | refine wg_name (by with_unfolding_all exact rfl) ?_ | refine wg_tup (by with_unfolding_all exact rfl) ?_ | refine wg_set (by with_unfolding_all exact rfl) ?_)
  | (with_reducible show WGs _ _ _ _ _; with_reducible first | refine wgs_cons ?_ | refine wgs_nil ?_)
  | (with_reducible show WO _ _ _; with_reducible first | refine wo_some ?_ | refine wo_none ?_)
  | refine ⟨_, argD5, ?_⟩
  | refine ⟨_, argD6, ?_⟩
  | refine ⟨_, argD7, ?_⟩
  | refine ⟨_, argD9, ?_⟩
  | with_reducible refine iteT ?_
  | with_reducible refine iteF ?_
  | with_reducible refine ⟨_, frz_per, ?_⟩
  | with_reducible refine ⟨_, frz_own, ?_⟩
  | refine ⟨_, rfl, ?_⟩
  | refine ⟨_, argD1, ?_⟩
  | refine ⟨_, argD2, ?_⟩
  | refine ⟨_, argD0, ?_⟩
  | refine ⟨_, argD3, ?_⟩
  | refine ⟨_, argD4, ?_⟩
  | refine ⟨_, _, rfl, rfl, rfl, ?_⟩
  | refine ⟨_, _, _, rfl, rfl, rfl, ?_⟩
  | refine ⟨(by simp only [List.length_cons, List.length_nil]; decide), ?_⟩
  | refine ⟨rfl, nd1, ?_⟩
  | refine ⟨rfl, nd0, ?_⟩)
local macro_rules | `(tactic| walk_at "w") => `(tactic| first
  | (with_reducible show WE _ _ _; with_reducible first | refine we_var (by with_unfolding_all exact rfl) ?_ | refine we_varF (by with_unfolding_all exact rfl) frz_own ?_ | (show WE (tOp _ _ _) _ _; first | refine we_isNd ?_ | refine we_notNd ?_ | refine we_notN ?_ | refine we_ixS (by with_unfolding_all exact rfl) ?_ | refine we_ixScr (by with_unfolding_all exact rfl) ?_ | refine we_inS (by with_unfolding_all exact rfl) ?_ | refine we_notInS (by with_unfolding_all exact rfl) ?_ | refine we_eqS (by with_unfolding_all exact rfl) ?_ | refine we_neS (by with_unfolding_all exact rfl) ?_ | refine we_opK ?_) | (show WE (tCB _ _) _ _; first | refine we_repr ?_ | refine we_isInt ?_ | refine we_isBl ?_ | refine we_isLst ?_ | refine we_isTup ?_ | refine we_lenO (by with_unfolding_all exact rfl) ?_ | refine we_lenS' (by with_unfolding_all exact rfl) ?_ | refine we_lenScr (by with_unfolding_all exact rfl) ?_ | refine we_cbK ?_) | refine we_dnew ?_ | refine we_lenSetI ?_ | refine we_revL ?_ | refine we_chain ?_ | refine we_slice ?_ | refine we_int ?_ | refine we_bl ?_ | refine we_non ?_ | refine we_str ?_ | refine we_neg ?_ | refine we_not ?_ | refine we_and ?_ | refine we_or ?_ | refine we_if ?_ | refine we_tup ?_ | refine we_lst ?_ | refine we_call ?_ | refine we_mt (by with_unfolding_all exact rfl) ?_)
  | (with_reducible show WS _ _ _ _; with_reducible first | refine ws_seqI ?_ | refine ws_seqA ?_ | refine ws_seqD ?_ | refine ws_asg (by with_unfolding_all exact rfl) ?_ | refine ws_asgG ?_ | refine ws_if ?_ | refine ws_ret ?_ | refine ws_drop ?_ | refine ws_next ?_ | refine ws_retN ?_)
  | (with_reducible show WT _ _ _; with_reducible first | refine wt_truL ?_ | refine wt_test ?_ | refine wt_B ?_ | refine wt_not ?_ | refine wt_and ?_ | refine wt_or ?_ | refine wt_yes ?_)
  | (with_reducible show WA _ _ _; with_reducible first | refine wa_nil ?_ | refine wa_cons (wq_of (we_var (by with_unfolding_all exact rfl) ?_)) | refine wa_slotU (by with_unfolding_all exact rfl) ?_ | refine wa_cons ?_)
  | (with_reducible show OpK _ _ _ _ _; with_reducible first | refine ok_neR ?_ | refine ok_eqR ?_ | refine ok_isB ?_ | refine ok_notB ?_ | refine ok_plusI ?_ | refine ok_sub ?_ | refine ok_lt ?_ | refine ok_le ?_ | refine ok_gt ?_ | refine ok_ge ?_ | refine ok_eqI ?_ | refine ok_neI ?_ | refine ok_mod (by first | assumption | decide | omega) ?_ | refine ok_ixL (by with_unfolding_all exact rfl) ?_)
  | (with_reducible show CbK _ _ _ _; with_reducible first | refine ck_tuple ?_ | refine ck_allF ?_ | refine ck_anyF ?_ | refine ck_abs ?_ | refine ck_sumI ?_ | refine ck_lenL ?_ | refine ck_lenT ?_ | refine ck_int ?_ | refine ck_intB ?_ | refine ck_max ?_ | refine ck_min ?_ | refine ck_list ?_)
  | with_reducible refine wq_of ?_
  | (with_reducible show WG _ _ _ _ _; with_reducible first | refine wg_name (by with_unfolding_all exact rfl) ?_ | refine wg_tup (by with_unfolding_all exact rfl) ?_ | refine wg_set (by with_unfolding_all exact rfl) ?_)
  | (with_reducible show WGs _ _ _ _ _; with_reducible first | refine wgs_cons ?_ | refine wgs_nil ?_)
  | (with_reducible show WO _ _ _; with_reducible first | refine wo_some ?_ | refine wo_none ?_)
  | refine ⟨_, argD5, ?_⟩
  | refine ⟨_, argD6, ?_⟩
  | refine ⟨_, argD7, ?_⟩
  | refine ⟨_, argD9, ?_⟩
  | with_reducible refine iteT ?_
  | with_reducible refine iteF ?_
  | with_reducible refine ⟨_, frz_per, ?_⟩
  | with_reducible refine ⟨_, frz_own, ?_⟩
  | refine ⟨_, rfl, ?_⟩
  | refine ⟨_, argD1, ?_⟩
  | refine ⟨_, argD2, ?_⟩
  | refine ⟨_, argD0, ?_⟩
  | refine ⟨_, argD3, ?_⟩
  | refine ⟨_, argD4, ?_⟩
  | refine ⟨_, _, rfl, rfl, rfl, ?_⟩
  | refine ⟨_, _, _, rfl, rfl, rfl, ?_⟩
  | refine ⟨(by simp only [List.length_cons, List.length_nil]; decide), ?_⟩
  | refine ⟨rfl, nd1, ?_⟩
  | refine ⟨rfl, nd0, ?_⟩
  | refine ⟨_, argD8, ?_⟩
  | refine ⟨_, argD10, ?_⟩)
local macro_rules | `(tactic| walk_at "v") => `(tactic| first
  | (with_reducible show WE _ _ _; with_reducible first | refine we_var (by with_unfolding_all exact rfl) ?_ | refine we_varF (by with_unfolding_all exact rfl) frz_own ?_ | (show WE (tOp _ _ _) _ _; first | refine we_isNd ?_ | refine we_notNd ?_ | refine we_notN ?_ | refine we_ixS (by with_unfolding_all exact rfl) ?_ | refine we_ixScr (by with_unfolding_all exact rfl) ?_ | refine we_inS (by with_unfolding_all exact rfl) ?_ | refine we_notInS (by with_unfolding_all exact rfl) ?_ | refine we_eqS (by with_unfolding_all exact rfl) ?_ | refine we_neS (by with_unfolding_all exact rfl) ?_ | refine we_opK ?_) | (show WE (tCB _ _) _ _; first | refine we_repr ?_ | refine we_lenWeb (by with_unfolding_all exact rfl) (by assumption) ?_ | refine we_isInt ?_ | refine we_isBl ?_ | refine we_isLst ?_ | refine we_isTup ?_ | refine we_lenO (by with_unfolding_all exact rfl) ?_ | refine we_lenS' (by with_unfolding_all exact rfl) ?_ | refine we_lenScr (by with_unfolding_all exact rfl) ?_ | refine we_cbK ?_) | refine we_dnew ?_ | refine we_lenSetI ?_ | refine we_revL ?_ | refine we_nbWeb (by with_unfolding_all exact rfl) (by assumption) (by assumption) ?_ | refine we_tiesWeb (by with_unfolding_all exact rfl) ?_ | refine we_chain ?_ | refine we_slice ?_ | refine we_int ?_ | refine we_bl ?_ | refine we_non ?_ | refine we_str ?_ | refine we_neg ?_ | refine we_not ?_ | refine we_and ?_ | refine we_or ?_ | refine we_if ?_ | refine we_tup ?_ | refine we_lst ?_ | refine we_call ?_ | refine we_mt (by with_unfolding_all exact rfl) ?_)
  | (with_reducible show WS _ _ _ _; with_reducible first | refine ws_seqI ?_ | refine ws_seqA ?_ | refine ws_seqD ?_ | refine ws_asg (by with_unfolding_all exact rfl) ?_ | refine ws_asgG ?_ | refine ws_if ?_ | refine ws_ret ?_ | refine ws_drop ?_ | refine ws_next ?_ | refine ws_retN ?_)
  | (with_reducible show WT _ _ _; with_reducible first | refine wt_truL ?_ | refine wt_test ?_ | refine wt_B ?_ | refine wt_not ?_ | refine wt_and ?_ | refine wt_or ?_ | refine wt_yes ?_)
  | (with_reducible show WA _ _ _; with_reducible first | refine wa_nil ?_ | refine wa_cons (wq_of (we_var (by with_unfolding_all exact rfl) ?_)) | refine wa_slotU (by with_unfolding_all exact rfl) ?_ | refine wa_cons ?_)
  | (with_reducible show OpK _ _ _ _ _; with_reducible first | refine ok_neR ?_ | refine ok_eqR ?_ | refine ok_isB ?_ | refine ok_notB ?_ | refine ok_plusI ?_ | refine ok_sub ?_ | refine ok_lt ?_ | refine ok_le ?_ | refine ok_gt ?_ | refine ok_ge ?_ | refine ok_eqI ?_ | refine ok_neI ?_ | refine ok_mod (by first | assumption | decide | omega) ?_ | refine ok_ixL (by with_unfolding_all exact rfl) ?_)
  | (with_reducible show CbK _ _ _ _; with_reducible first | refine ck_tuple ?_ | refine ck_allF ?_ | refine ck_anyF ?_ | refine ck_abs ?_ | refine ck_sumI ?_ | refine ck_lenL ?_ | refine ck_lenT ?_ | refine ck_int ?_ | refine ck_intB ?_ | refine ck_max ?_ | refine ck_min ?_ | refine ck_list ?_)
  | with_reducible refine wq_of ?_
  | (with_reducible show WG _ _ _ _ _; with_reducible first | refine wg_name (by with_unfolding_all exact rfl) ?_ | refine wg_tup (by with_unfolding_all exact rfl) ?_ | refine wg_set (by with_unfolding_all exact rfl) ?_)
  | (with_reducible show WGs _ _ _ _ _; with_reducible first | refine wgs_cons ?_ | refine wgs_nil ?_)
  | (with_reducible show WO _ _ _; with_reducible first | refine wo_some ?_ | refine wo_none ?_)
  | refine ⟨_, argD5, ?_⟩
  | refine ⟨_, argD6, ?_⟩
  | refine ⟨_, argD7, ?_⟩
  | refine ⟨_, argD9, ?_⟩
  | with_reducible refine iteT ?_
  | with_reducible refine iteF ?_
  | with_reducible refine ⟨_, frz_per, ?_⟩
  | with_reducible refine ⟨_, frz_own, ?_⟩
  | refine ⟨_, rfl, ?_⟩
  | refine ⟨_, argD1, ?_⟩
  | refine ⟨_, argD2, ?_⟩
  | refine ⟨_, argD0, ?_⟩
  | refine ⟨_, argD3, ?_⟩
  | refine ⟨_, argD4, ?_⟩
  | refine ⟨_, _, rfl, rfl, rfl, ?_⟩
  | refine ⟨_, _, _, rfl, rfl, rfl, ?_⟩
  | refine ⟨(by simp only [List.length_cons, List.length_nil]; decide), ?_⟩
  | refine ⟨rfl, nd1, ?_⟩
  | refine ⟨rfl, nd0, ?_⟩
  | refine ⟨_, argD8, ?_⟩
  | refine ⟨_, argD10, ?_⟩)
local macro_rules | `(tactic| walk_at "p") => `(tactic| refine ⟨_, _, rfl, (by omega), (by first | decide | omega), (by first | decide | omega), ?_⟩)
local macro_rules | `(tactic| walk_at "n") => `(tactic| try dsimp only [back, List.set_cons_zero, List.set_cons_succ, List.map_cons, List.map_nil, List.cons_append, List.nil_append])
local macro_rules | `(tactic| walk_at "q") => `(tactic| first | with_reducible refine ws_seqP (ws_par (by with_unfolding_all exact rfl) (by with_unfolding_all exact rfl) ?_) | refine ⟨_, _, rfl, ?_⟩ | walk_at "v")
abbrev t_law_hue_0 (K : PySem.W.Frag) : TS :=
  (tRet (tOp (rPlus K) (tOp (rMulI) (tCall (sp_law_pick K) [] E0 (tCons (tVar 0) (tCons (tOp (rPowI) (tC (.int 10)) (tC (.int 6))) tNil))) (tC (.int 1000))) (tCall (sp_law_pick K) [] E0 (tCons (tVar 0) (tCons (tC (.int 1000)) tNil)))))
abbrev t_law_hue_1 (K : PySem.W.Frag) : TS :=
  (tAsg (tOp (rPlus K) (tOp (rMulI) (tVar 2) (tOp (rPowI) (tC (.int 10)) (tC (.int 6)))) (tCall (sp_law_pick K) [] E0 (tCons (tVar 0) (tCons (tOp (rPowI) (tC (.int 10)) (tC (.int 6))) tNil)))) (gName 2))
abbrev t_law_hue_2 (K : PySem.W.Frag) : TS :=
  (tSeq (tFor (iRng1 (tCons (tOp (rPlus K) (tC (.int 1)) (tCall (sp_law_pick K) [] E0 (tCons (tVar 0) (tCons (tC (.int 5)) tNil)))) tNil)) (gName 3) (t_law_hue_1 K))
    (tRet (tVar 2)))
abbrev t_law_hue_3 (K : PySem.W.Frag) : TS :=
  (tSeq (tIfS (tTest (tOp (rEqD K) (tVar 1) (tC (.int 0)))) (tRet (tCall (sp_law_pick K) [] E0 (tCons (tVar 0) (tCons (tC (.int 12)) tNil)))) tNext)
    (tSeq (tIfS (tTest (tOp (rEqD K) (tVar 1) (tC (.int 1)))) (t_law_hue_0 K) tNext)
    (tSeq (tAsg (tC (.int 0)) (gName 2))
    (t_law_hue_2 K))))
def t_law_hue (K : PySem.W.Frag) : TS :=
  (tSeq (tAsg (tCall (sp_law_pick K) [] E0 (tCons (tVar 0) (tCons (tC (.int 4)) tNil))) (gName 1))
    (t_law_hue_3 K))
abbrev N_law_hue : List Str := ["urn", "kind", "found", "k"]
abbrev F_law_hue : Fw := fun gs kk xx => ∃ m, gs = [urn m] ∧ 8 ≤ m ∧ ∀ h : Int, 0 ≤ h → h < 10 ^ 30 → kk (dat (.int h)) [some (urn (m - 8))]
abbrev sp_law_hue (K : PySem.W.Frag) : Sp := SpG 1 F_law_hue
theorem pure_law_hue {K : PySem.W.Frag} {vs : List V} {H : Hp} {Q : VK} {E : XK} (h : sp_law_hue K vs H Q E) : t_law_hue K { nx := fun _ H' => Q .non H', rt := Q } (L2.start N_law_hue vs) H := by
  refine body_ok (fun i => i == 0) ?_ h
  rintro gs kk xx ⟨m, rfl, hm, hk⟩ -
  unfold t_law_hue
  show WS _ _ [some (urn m), none, none, none] _
  repeat walk_at "v"
  walk_at "p"
  intro kd k0 k1
  walk_at "n"
  refine ws_seqI (ws_if ?_)
  repeat walk_at "v"
  refine ite_dec (fun _ => ?_) fun _ => ws_next ?_
  · repeat walk_at "v"
    walk_at "p"
    intro r r0 r1
    exact ⟨_, _, Ent.refl, les_some (urn_le (by omega)) les_nil, hk r r0 (by omega)⟩
  walk_at "n"
  refine ws_seqI (ws_if ?_)
  repeat walk_at "v"
  refine ite_dec (fun _ => ?_) fun _ => ws_next ?_
  · repeat walk_at "v"
    refine ok_pow (cpow_of (by decide) (by decide) (by decide)) ?_
    repeat walk_at "v"
    refine ⟨_, _, rfl, by omega, by decide, by decide, fun r r0 r1 => ?_⟩
    have r1 : r < 10 ^ 6 := r1
    repeat walk_at "v"
    refine ok_mul (.inr ⟨by decide, by decide⟩) ?_
    repeat walk_at "v"
    walk_at "p"
    intro s s0 s1
    repeat walk_at "v"
    exact ⟨_, _, Ent.refl, les_some (urn_le (by omega)) les_nil, hk _ (by omega) (by omega)⟩
  walk_at "n"
  repeat walk_at "v"
  walk_at "n"
  show WS _ _ [some (urn (m - 1)), some (dat (.int kd)), some (dat (.int 0)), none] _
  refine ws_seq (ws_forF (fun i : Nat => .int (i : Int)) (fun pre Γ => ∃ (m1 : Nat) (f : Int) (o3 : Option Gp), Γ = [some (urn m1), some (dat (.int kd)), some (dat (.int f)), o3] ∧ m ≤ m1 + 2 + pre.length ∧ 0 ≤ f ∧ f < 10 ^ (6 * pre.length)) (wil_range1 ?_))
  repeat walk_at "v"
  walk_at "p"
  intro r r0 r1
  repeat walk_at "v"
  refine ⟨by omega, by omega, List.range (1 + r).toNat, rfl, ⟨_, 0, _, rfl, by simp only [List.length_nil]; omega, by omega, by simp⟩, ?_, ?_⟩
  · rintro _ ⟨m1, f, o3, rfl, h1, f0, f1⟩
    rw [List.length_range] at h1 f1
    refine ws_ret (we_var rfl ⟨_, _, Ent.refl, les_some (urn_le (by omega)) les_nil, hk f f0 (Int.lt_of_lt_of_le f1 ?_)⟩)
    have : (1 + r).toNat = 1 ∨ (1 + r).toNat = 2 ∨ (1 + r).toNat = 3 ∨ (1 + r).toNat = 4 ∨ (1 + r).toNat = 5 := by omega
    rcases this with e | e | e | e | e <;> rw [e] <;> decide
  · rintro pre i post _ hs ⟨m1, f, o3, rfl, h1, f0, f1⟩
    obtain ⟨rfl, hlt⟩ := range_split hs
    refine wg_name rfl ?_
    walk_at "n"
    repeat walk_at "v"
    refine ok_pow (cpow_of (by decide) (by decide) (by decide)) ?_
    repeat walk_at "v"
    refine ok_mul (.inr ⟨by decide, by decide⟩) ?_
    repeat walk_at "v"
    refine ok_pow (cpow_of (by decide) (by decide) (by decide)) ?_
    repeat walk_at "v"
    refine ⟨_, _, rfl, by omega, by decide, by decide, fun s s0 s1 => ?_⟩
    have s1 : s < 10 ^ 6 := s1
    repeat walk_at "v"
    rw [show (10 : Int) ^ (6 : Int).toNat = 1000000 by decide] at *
    have e6 : (10 : Int) ^ (6 * (pre ++ [pre.length]).length) = 10 ^ (6 * pre.length) * 1000000 := by
      rw [List.length_append, List.length_singleton, show 6 * (pre.length + 1) = 6 * pre.length + 1 + 1 + 1 + 1 + 1 + 1 by omega]
      simp only [Int.pow_succ]
      omega
    refine ⟨m1 - 1, f * 1000000 + s, _, rfl, by rw [List.length_append, List.length_singleton]; omega, by omega, ?_⟩
    rw [e6]
    generalize (10 : Int) ^ (6 * pre.length) = x at f1
    omega
abbrev t_law_written_0 (K : PySem.W.Frag) : TS :=
  (tDrop (tBM K "list" (rAppend) (tVar 1) (tCons (tOp (rIx K) (tLst (tCons (tM1 (rJoinS K) (tC (.str ",")) (tLc (iList K (tVar 2)) (gName 3) tYes (tCB (rStrI) (tCons (tVar 3) tNil)) [3])) (tCons (tC (.str ".")) tNil))) (tCB (rInt1) (tCons (tOp (rEqNil K) (tVar 2) (tLst tNil)) tNil))) tNil)))
abbrev t_law_written_1 (K : PySem.W.Frag) : TS :=
  (tRet (tOp (rIx K) (tLst (tCons (tM1 (rJoinS K) (tC (.str " ")) (tVar 1)) (tCons (tC (.str "-")) tNil))) (tCB (rInt1) (tCons (tOp (rEqNil K) (tVar 1) (tLst tNil)) tNil))))
def t_law_written (K : PySem.W.Frag) : TS :=
  (tSeq (tAsg (tLst tNil) (gName 1))
    (tSeq (tFor (iList K (tVar 0)) (gName 2) (t_law_written_0 K))
    (t_law_written_1 K)))
abbrev N_law_written : List Str := ["rows", "words", "row", "hue"]
abbrev F_law_written : Fw := fun gs kk xx => ∃ rows : List (List Int), gs = [dat (.list (rows.map rowI))] ∧ RowsK rows ∧ kk (dat (.str (listsS rows))) [none]
abbrev sp_law_written (K : PySem.W.Frag) : Sp := SpG 1 F_law_written
theorem pure_law_written {K : PySem.W.Frag} {vs : List V} {H : Hp} {Q : VK} {E : XK} (h : sp_law_written K vs H Q E) : t_law_written K { nx := fun _ H' => Q .non H', rt := Q } (L2.start N_law_written vs) H := by
  refine body_ok (fun i => false) ?_ h
  rintro gs kk xx ⟨rows, rfl, hr, hk⟩ -
  unfold t_law_written
  have hf := hr.1
  show WS _ _ [some (dat (.list (rows.map rowI))), none, none, none] _
  refine ws_seq (ws_asg rfl (we_lst (wa_nil ⟨[], argD0, by simp, ?_⟩)))
  walk_at "n"
  refine ws_seq (ws_forF rowI (fun pre Γ => ∃ o2 : Option Gp, Γ = [some (dat (.list (rows.map rowI))), some (own ((pre.map rowS).map .str)), o2, none]) (wil_list (wq_of (we_var rfl ⟨_, frz_per, _, rfl, rows, rfl, ⟨_, rfl⟩, ?_, ?_⟩))))
  · rintro _ ⟨o2, rfl⟩
    have st : Still [some (dat (.list (rows.map rowI))), some (own ((rows.map rowS).map .str)), o2, none] [none, some (dat (.list ((rows.map rowS).map .str))), none, none] := (StillL.non (.frz frz_own (.non (.non .nil)))).still
    have h2 := sum_len (ws := rows.map rowS) (b := 3100) fun w hw => by
      obtain ⟨i, hi, rfl⟩ := List.mem_map.mp hw
      exact row_len (hr.2 i hi)
    rw [List.length_map] at h2
    refine ws_ret (we_opK (wq_of (we_lst (wa_cons (wq_of (we_join (wq_of (we_str ⟨_, frz_per, " ", rfl, wq_of (we_varF rfl frz_own ⟨_, frz_per, rows.map rowS, rfl, ?_, ?_⟩)⟩)))))))) 
    · show _ + _ * 1 ≤ _
      rw [List.length_map]
      omega
    refine ⟨_, frz_per, wa_cons (wq_of (we_str ⟨_, frz_per, wa_nil ⟨[_, _], argD2, by simp, _, frz_own, _, rfl, ?_⟩⟩))⟩
    refine wq_of (we_cbK (wa_cons (wq_of (we_eqNilV (wq_of (we_var rfl ⟨_, frz_per, _, rfl, _, frz_per, ?_⟩))))))
    refine wa_nil ⟨_, argD1, ck_intB ⟨_, frz_per, _, rfl, ?_⟩⟩
    cases rows with
    | nil =>
      refine ok_ixL (d := .str "-") rfl ?_
      exact ⟨_, _, Ent.refl, les_none les_nil, hk⟩
    | cons x xs =>
      refine ok_ixL (d := .str (Txt.join " " ((x :: xs).map rowS))) rfl ?_
      rw [txt_join, show Str.join " " ((x :: xs).map rowS) = listsS (x :: xs) from by unfold listsS; rw [if_neg (by simp)]; rfl]
      exact ⟨_, _, Ent.refl, les_none les_nil, hk⟩
  · rintro pre r post _ hs ⟨o2, rfl⟩
    have hrm : r ∈ rows := by rw [hs]; simp
    have hrk := hr.2 r hrm
    have hpl : pre.length < 100 := by
      have := congrArg List.length hs
      simp at this
      omega
    refine wg_name rfl ?_
    walk_at "n"
    show WS _ _ [some (dat (.list (rows.map rowI))), some (own ((pre.map rowS).map .str)), some (dat (rowI r)), none] _
    refine ws_drop (we_mt (i := 1) rfl (wa_cons (wq_of (we_opK (wq_of (we_lst (wa_cons (wq_of (we_join (wq_of (we_str ⟨_, frz_per, ",", rfl, wq_of ?_⟩))))))))))) 
    refine we_lcM .int .str tS (wil_list (wq_of (we_var rfl ⟨_, frz_per, _, rfl, r, rfl, rfl, by have := hrk.few; omega, fun i hi => ?_, ?_⟩)))
    · refine wg_name rfl ?_
      walk_at "n"
      exact wq_of (we_cbK (wa_cons (wq_of (we_var rfl ⟨_, frz_per, wa_nil ⟨_, argD1, ck_strI (hue_log (hrk.rng i hi)) ⟨_, frz_per, rfl, rfl⟩⟩⟩))))
    have h2 := sum_len (ws := r.map tS) (b := 30) fun w hw => by
      obtain ⟨i, hi, rfl⟩ := List.mem_map.mp hw
      exact hue_len (hrk.rng i hi)
    rw [List.length_map] at h2
    have h3 := hrk.few
    refine ⟨_, frz_own, _, rfl, ?_, ?_⟩
    · show _ + _ * 1 ≤ _
      rw [List.length_map]
      omega
    refine ⟨_, frz_per, wa_cons (wq_of (we_str ⟨_, frz_per, wa_nil ⟨[_, _], argD2, by simp, _, frz_own, _, rfl, ?_⟩⟩))⟩
    refine wq_of (we_cbK (wa_cons (wq_of (we_eqNilV (wq_of (we_var rfl ⟨_, frz_per, _, rfl, _, frz_per, ?_⟩))))))
    refine wa_nil ⟨_, argD1, ck_intB ⟨_, frz_per, _, rfl, ?_⟩⟩
    have fin : ∀ {k : Gp → Ga → Prop} {Γ : Ga}, k (dat (.str (rowS r))) Γ → OpK (rIx K) (.list [.str (Txt.join "," (r.map tS)), .str "."]) (.int (if (r.map PyData.int).isEmpty then 1 else 0)) k Γ := fun {k Γ} hk => by
      cases r with
      | nil => exact ok_ixL (d := .str ".") rfl hk
      | cons x xs =>
        refine ok_ixL (d := .str (Txt.join "," ((x :: xs).map tS))) rfl ?_
        rw [txt_join, show Str.join "," ((x :: xs).map tS) = rowS (x :: xs) from by unfold rowS; rw [if_neg (by simp)]; rfl]
        exact hk
    refine fin ⟨_, frz_per, wa_nil ⟨_, _, _, _, rfl, argD1, mo_append (by rw [List.length_map, List.length_map]; omega), ?_⟩⟩
    refine ⟨some (dat (rowI r)), ?_⟩
    rw [List.map_append, List.map_append]
    rfl
end G

namespace G
open PySem L2
local macro_rules | `(tactic| walk_at "g1") => `(tactic| first
  | (with_reducible show WE _ _ _; with_reducible first | refine we_var (by with_unfolding_all exact rfl) ?_ | (show WE (tOp _ _ _) _ _; first | refine we_ixS (by with_unfolding_all exact rfl) ?_ | refine we_ixScr (by with_unfolding_all exact rfl) ?_ | refine we_inS (by with_unfolding_all exact rfl) ?_ | refine we_notInS (by with_unfolding_all exact rfl) ?_ | refine we_eqS (by with_unfolding_all exact rfl) ?_ | refine we_neS (by with_unfolding_all exact rfl) ?_ | refine we_opK ?_) | (show WE (tCB _ _) _ _; first | refine we_lenS' (by with_unfolding_all exact rfl) ?_ | refine we_lenScr (by with_unfolding_all exact rfl) ?_ | refine we_cbK ?_) | refine we_int ?_ | refine we_bl ?_ | refine we_non ?_ | refine we_str ?_ | refine we_neg ?_ | refine we_not ?_ | refine we_and ?_ | refine we_or ?_ | refine we_if ?_ | refine we_tup ?_ | refine we_lst ?_ | refine we_call ?_ | refine we_mt (by with_unfolding_all exact rfl) ?_)
  | (with_reducible show WS _ _ _ _; with_reducible first | refine ws_seqA ?_ | refine ws_seqD ?_ | refine ws_asg (by with_unfolding_all exact rfl) ?_ | refine ws_asgG ?_ | refine ws_if ?_ | refine ws_ret ?_ | refine ws_drop ?_ | refine ws_next ?_ | refine ws_retN ?_)
  | (with_reducible show WT _ _ _; with_reducible first | refine wt_test ?_ | refine wt_B ?_ | refine wt_not ?_ | refine wt_and ?_ | refine wt_or ?_ | refine wt_yes ?_)
  | (with_reducible show WA _ _ _; with_reducible first | refine wa_nil ?_ | refine wa_cons (wq_of (we_var (by with_unfolding_all exact rfl) ?_)) | refine wa_slotU (by with_unfolding_all exact rfl) ?_ | refine wa_cons ?_)
  | (with_reducible show OpK _ _ _ _ _; with_reducible first | refine ok_plusI ?_ | refine ok_sub ?_ | refine ok_lt ?_ | refine ok_le ?_ | refine ok_gt ?_ | refine ok_ge ?_ | refine ok_eqI ?_ | refine ok_neI ?_ | refine ok_mod (by first | assumption | decide | omega) ?_ | refine ok_ixL (by with_unfolding_all exact rfl) ?_)
  | (with_reducible show CbK _ _ _ _; with_reducible first | refine ck_lenL ?_ | refine ck_lenT ?_ | refine ck_int ?_ | refine ck_intB ?_ | refine ck_max ?_ | refine ck_min ?_ | refine ck_list ?_)
  | with_reducible refine wq_of ?_
  | (with_reducible show WG _ _ _ _ _; with_reducible first | refine wg_name (by with_unfolding_all exact rfl) ?_ | refine wg_tup (by with_unfolding_all exact rfl) ?_ | refine wg_set (by with_unfolding_all exact rfl) ?_)
  | (with_reducible show WGs _ _ _ _ _; with_reducible first | refine wgs_cons ?_ | refine wgs_nil ?_)
  | with_reducible refine iteT ?_
  | with_reducible refine iteF ?_
  | with_reducible refine ⟨_, frz_per, ?_⟩
  | with_reducible refine ⟨_, frz_own, ?_⟩
  | refine ⟨_, rfl, ?_⟩
  | refine ⟨_, argD1, ?_⟩
  | refine ⟨_, argD2, ?_⟩
  | refine ⟨_, argD0, ?_⟩
  | refine ⟨_, argD3, ?_⟩
  | refine ⟨_, argD4, ?_⟩
  | refine ⟨_, _, rfl, rfl, rfl, ?_⟩
  | refine ⟨_, _, _, rfl, rfl, rfl, ?_⟩
  | refine ⟨(by simp only [List.length_cons, List.length_nil]; decide), ?_⟩
  | refine ⟨rfl, nd1, ?_⟩
  | refine ⟨rfl, nd0, ?_⟩)
local macro_rules | `(tactic| walk_at "go") => `(tactic| repeat walk_at "g1")
local macro_rules | `(tactic| walk_at "g2") => `(tactic| first
  | (with_reducible show WE _ _ _; with_reducible first | refine we_var (by with_unfolding_all exact rfl) ?_ | (show WE (tOp _ _ _) _ _; first | refine we_notN ?_ | refine we_ixS (by with_unfolding_all exact rfl) ?_ | refine we_ixScr (by with_unfolding_all exact rfl) ?_ | refine we_inS (by with_unfolding_all exact rfl) ?_ | refine we_notInS (by with_unfolding_all exact rfl) ?_ | refine we_eqS (by with_unfolding_all exact rfl) ?_ | refine we_neS (by with_unfolding_all exact rfl) ?_ | refine we_opK ?_) | (show WE (tCB _ _) _ _; first | refine we_isInt ?_ | refine we_isBl ?_ | refine we_isLst ?_ | refine we_isTup ?_ | refine we_lenO (by with_unfolding_all exact rfl) ?_ | refine we_lenS' (by with_unfolding_all exact rfl) ?_ | refine we_lenScr (by with_unfolding_all exact rfl) ?_ | refine we_cbK ?_) | refine we_chain ?_ | refine we_slice ?_ | refine we_int ?_ | refine we_bl ?_ | refine we_non ?_ | refine we_str ?_ | refine we_neg ?_ | refine we_not ?_ | refine we_and ?_ | refine we_or ?_ | refine we_if ?_ | refine we_tup ?_ | refine we_lst ?_ | refine we_call ?_ | refine we_mt (by with_unfolding_all exact rfl) ?_)
  | (with_reducible show WS _ _ _ _; with_reducible first | refine ws_seqA ?_ | refine ws_seqD ?_ | refine ws_asg (by with_unfolding_all exact rfl) ?_ | refine ws_asgG ?_ | refine ws_if ?_ | refine ws_ret ?_ | refine ws_drop ?_ | refine ws_next ?_ | refine ws_retN ?_)
  | (with_reducible show WT _ _ _; with_reducible first | refine wt_test ?_ | refine wt_B ?_ | refine wt_not ?_ | refine wt_and ?_ | refine wt_or ?_ | refine wt_yes ?_)
  | (with_reducible show WA _ _ _; with_reducible first | refine wa_nil ?_ | refine wa_cons (wq_of (we_var (by with_unfolding_all exact rfl) ?_)) | refine wa_slotU (by with_unfolding_all exact rfl) ?_ | refine wa_cons ?_)
  | (with_reducible show OpK _ _ _ _ _; with_reducible first | refine ok_isB ?_ | refine ok_notB ?_ | refine ok_plusI ?_ | refine ok_sub ?_ | refine ok_lt ?_ | refine ok_le ?_ | refine ok_gt ?_ | refine ok_ge ?_ | refine ok_eqI ?_ | refine ok_neI ?_ | refine ok_mod (by first | assumption | decide | omega) ?_ | refine ok_ixL (by with_unfolding_all exact rfl) ?_)
  | (with_reducible show CbK _ _ _ _; with_reducible first | refine ck_lenL ?_ | refine ck_lenT ?_ | refine ck_int ?_ | refine ck_intB ?_ | refine ck_max ?_ | refine ck_min ?_ | refine ck_list ?_)
  | with_reducible refine wq_of ?_
  | (with_reducible show WG _ _ _ _ _; with_reducible first | refine wg_name (by with_unfolding_all exact rfl) ?_ | refine wg_tup (by with_unfolding_all exact rfl) ?_ | refine wg_set (by with_unfolding_all exact rfl) ?_)
  | (with_reducible show WGs _ _ _ _ _; with_reducible first | refine wgs_cons ?_ | refine wgs_nil ?_)
  | (with_reducible show WO _ _ _; with_reducible first | refine wo_some ?_ | refine wo_none ?_)
  | refine ⟨_, argD5, ?_⟩
  | refine ⟨_, argD6, ?_⟩
  | refine ⟨_, argD7, ?_⟩
  | refine ⟨_, argD9, ?_⟩
  | with_reducible refine iteT ?_
  | with_reducible refine iteF ?_
  | with_reducible refine ⟨_, frz_per, ?_⟩
  | with_reducible refine ⟨_, frz_own, ?_⟩
  | refine ⟨_, rfl, ?_⟩
  | refine ⟨_, argD1, ?_⟩
  | refine ⟨_, argD2, ?_⟩
  | refine ⟨_, argD0, ?_⟩
  | refine ⟨_, argD3, ?_⟩
  | refine ⟨_, argD4, ?_⟩
  | refine ⟨_, _, rfl, rfl, rfl, ?_⟩
  | refine ⟨_, _, _, rfl, rfl, rfl, ?_⟩
  | refine ⟨(by simp only [List.length_cons, List.length_nil]; decide), ?_⟩
  | refine ⟨rfl, nd1, ?_⟩
  | refine ⟨rfl, nd0, ?_⟩)
local macro_rules | `(tactic| walk_at "w") => `(tactic| first
  | (with_reducible show WE _ _ _; with_reducible first | refine we_var (by with_unfolding_all exact rfl) ?_ | refine we_varF (by with_unfolding_all exact rfl) frz_own ?_ | (show WE (tOp _ _ _) _ _; first | refine we_isNd ?_ | refine we_notNd ?_ | refine we_notN ?_ | refine we_ixS (by with_unfolding_all exact rfl) ?_ | refine we_ixScr (by with_unfolding_all exact rfl) ?_ | refine we_inS (by with_unfolding_all exact rfl) ?_ | refine we_notInS (by with_unfolding_all exact rfl) ?_ | refine we_eqS (by with_unfolding_all exact rfl) ?_ | refine we_neS (by with_unfolding_all exact rfl) ?_ | refine we_opK ?_) | (show WE (tCB _ _) _ _; first | refine we_repr ?_ | refine we_isInt ?_ | refine we_isBl ?_ | refine we_isLst ?_ | refine we_isTup ?_ | refine we_lenO (by with_unfolding_all exact rfl) ?_ | refine we_lenS' (by with_unfolding_all exact rfl) ?_ | refine we_lenScr (by with_unfolding_all exact rfl) ?_ | refine we_cbK ?_) | refine we_dnew ?_ | refine we_lenSetI ?_ | refine we_revL ?_ | refine we_chain ?_ | refine we_slice ?_ | refine we_int ?_ | refine we_bl ?_ | refine we_non ?_ | refine we_str ?_ | refine we_neg ?_ | refine we_not ?_ | refine we_and ?_ | refine we_or ?_ | refine we_if ?_ | refine we_tup ?_ | refine we_lst ?_ | refine we_call ?_ | refine we_mt (by with_unfolding_all exact rfl) ?_)
  | (with_reducible show WS _ _ _ _; with_reducible first | refine ws_seqI ?_ | refine ws_seqA ?_ | refine ws_seqD ?_ | refine ws_asg (by with_unfolding_all exact rfl) ?_ | refine ws_asgG ?_ | refine ws_if ?_ | refine ws_ret ?_ | refine ws_drop ?_ | refine ws_next ?_ | refine ws_retN ?_)
  | (with_reducible show WT _ _ _; with_reducible first | refine wt_truL ?_ | refine wt_test ?_ | refine wt_B ?_ | refine wt_not ?_ | refine wt_and ?_ | refine wt_or ?_ | refine wt_yes ?_)
  | (with_reducible show WA _ _ _; with_reducible first | refine wa_nil ?_ | refine wa_cons (wq_of (we_var (by with_unfolding_all exact rfl) ?_)) | refine wa_slotU (by with_unfolding_all exact rfl) ?_ | refine wa_cons ?_)
  | (with_reducible show OpK _ _ _ _ _; with_reducible first | refine ok_neR ?_ | refine ok_eqR ?_ | refine ok_isB ?_ | refine ok_notB ?_ | refine ok_plusI ?_ | refine ok_sub ?_ | refine ok_lt ?_ | refine ok_le ?_ | refine ok_gt ?_ | refine ok_ge ?_ | refine ok_eqI ?_ | refine ok_neI ?_ | refine ok_mod (by first | assumption | decide | omega) ?_ | refine ok_ixL (by with_unfolding_all exact rfl) ?_)
  | (with_reducible show CbK _ _ _ _; with_reducible first | refine ck_tuple ?_ | refine ck_allF ?_ | refine ck_anyF ?_ | refine ck_abs ?_ | refine ck_sumI ?_ | refine ck_lenL ?_ | refine ck_lenT ?_ | refine ck_int ?_ | refine ck_intB ?_ | refine ck_max ?_ | refine ck_min ?_ | refine ck_list ?_)
  | with_reducible refine wq_of ?_
  | (with_reducible show WG _ _ _ _ _; with_reducible first | refine wg_name (by with_unfolding_all exact rfl) ?_ | refine wg_tup (by with_unfolding_all exact rfl) ?_ | refine wg_set (by with_unfolding_all exact rfl) ?_)
  | (with_reducible show WGs _ _ _ _ _; with_reducible first | refine wgs_cons ?_ | refine wgs_nil ?_)
  | (with_reducible show WO _ _ _; with_reducible first | refine wo_some ?_ | refine wo_none ?_)
  | refine ⟨_, argD5, ?_⟩
  | refine ⟨_, argD6, ?_⟩
  | refine ⟨_, argD7, ?_⟩
  | refine ⟨_, argD9, ?_⟩
  | with_reducible refine iteT ?_
  | with_reducible refine iteF ?_
  | with_reducible refine ⟨_, frz_per, ?_⟩
  | with_reducible refine ⟨_, frz_own, ?_⟩
  | refine ⟨_, rfl, ?_⟩
  | refine ⟨_, argD1, ?_⟩
  | refine ⟨_, argD2, ?_⟩
  | refine ⟨_, argD0, ?_⟩
  | refine ⟨_, argD3, ?_⟩
  | refine ⟨_, argD4, ?_⟩
  | refine ⟨_, _, rfl, rfl, rfl, ?_⟩
  | refine ⟨_, _, _, rfl, rfl, rfl, ?_⟩
  | refine ⟨(by simp only [List.length_cons, List.length_nil]; decide), ?_⟩
  | refine ⟨rfl, nd1, ?_⟩
  | refine ⟨rfl, nd0, ?_⟩
  | refine ⟨_, argD8, ?_⟩
  | refine ⟨_, argD10, ?_⟩)
local macro_rules | `(tactic| walk_at "v") => `(tactic| first
  | (with_reducible show WE _ _ _; with_reducible first | refine we_var (by with_unfolding_all exact rfl) ?_ | refine we_varF (by with_unfolding_all exact rfl) frz_own ?_ | (show WE (tOp _ _ _) _ _; first | refine we_isNd ?_ | refine we_notNd ?_ | refine we_notN ?_ | refine we_ixS (by with_unfolding_all exact rfl) ?_ | refine we_ixScr (by with_unfolding_all exact rfl) ?_ | refine we_inS (by with_unfolding_all exact rfl) ?_ | refine we_notInS (by with_unfolding_all exact rfl) ?_ | refine we_eqS (by with_unfolding_all exact rfl) ?_ | refine we_neS (by with_unfolding_all exact rfl) ?_ | refine we_opK ?_) | (show WE (tCB _ _) _ _; first | refine we_repr ?_ | refine we_lenWeb (by with_unfolding_all exact rfl) (by assumption) ?_ | refine we_isInt ?_ | refine we_isBl ?_ | refine we_isLst ?_ | refine we_isTup ?_ | refine we_lenO (by with_unfolding_all exact rfl) ?_ | refine we_lenS' (by with_unfolding_all exact rfl) ?_ | refine we_lenScr (by with_unfolding_all exact rfl) ?_ | refine we_cbK ?_) | refine we_dnew ?_ | refine we_lenSetI ?_ | refine we_revL ?_ | refine we_nbWeb (by with_unfolding_all exact rfl) (by assumption) (by assumption) ?_ | refine we_tiesWeb (by with_unfolding_all exact rfl) ?_ | refine we_chain ?_ | refine we_slice ?_ | refine we_int ?_ | refine we_bl ?_ | refine we_non ?_ | refine we_str ?_ | refine we_neg ?_ | refine we_not ?_ | refine we_and ?_ | refine we_or ?_ | refine we_if ?_ | refine we_tup ?_ | refine we_lst ?_ | refine we_call ?_ | refine we_mt (by with_unfolding_all exact rfl) ?_)
  | (with_reducible show WS _ _ _ _; with_reducible first | refine ws_seqI ?_ | refine ws_seqA ?_ | refine ws_seqD ?_ | refine ws_asg (by with_unfolding_all exact rfl) ?_ | refine ws_asgG ?_ | refine ws_if ?_ | refine ws_ret ?_ | refine ws_drop ?_ | refine ws_next ?_ | refine ws_retN ?_)
  | (with_reducible show WT _ _ _; with_reducible first | refine wt_truL ?_ | refine wt_test ?_ | refine wt_B ?_ | refine wt_not ?_ | refine wt_and ?_ | refine wt_or ?_ | refine wt_yes ?_)
  | (with_reducible show WA _ _ _; with_reducible first | refine wa_nil ?_ | refine wa_cons (wq_of (we_var (by with_unfolding_all exact rfl) ?_)) | refine wa_slotU (by with_unfolding_all exact rfl) ?_ | refine wa_cons ?_)
  | (with_reducible show OpK _ _ _ _ _; with_reducible first | refine ok_neR ?_ | refine ok_eqR ?_ | refine ok_isB ?_ | refine ok_notB ?_ | refine ok_plusI ?_ | refine ok_sub ?_ | refine ok_lt ?_ | refine ok_le ?_ | refine ok_gt ?_ | refine ok_ge ?_ | refine ok_eqI ?_ | refine ok_neI ?_ | refine ok_mod (by first | assumption | decide | omega) ?_ | refine ok_ixL (by with_unfolding_all exact rfl) ?_)
  | (with_reducible show CbK _ _ _ _; with_reducible first | refine ck_tuple ?_ | refine ck_allF ?_ | refine ck_anyF ?_ | refine ck_abs ?_ | refine ck_sumI ?_ | refine ck_lenL ?_ | refine ck_lenT ?_ | refine ck_int ?_ | refine ck_intB ?_ | refine ck_max ?_ | refine ck_min ?_ | refine ck_list ?_)
  | with_reducible refine wq_of ?_
  | (with_reducible show WG _ _ _ _ _; with_reducible first | refine wg_name (by with_unfolding_all exact rfl) ?_ | refine wg_tup (by with_unfolding_all exact rfl) ?_ | refine wg_set (by with_unfolding_all exact rfl) ?_)
  | (with_reducible show WGs _ _ _ _ _; with_reducible first | refine wgs_cons ?_ | refine wgs_nil ?_)
  | (with_reducible show WO _ _ _; with_reducible first | refine wo_some ?_ | refine wo_none ?_)
  | refine ⟨_, argD5, ?_⟩
  | refine ⟨_, argD6, ?_⟩
  | refine ⟨_, argD7, ?_⟩
  | refine ⟨_, argD9, ?_⟩
  | with_reducible refine iteT ?_
  | with_reducible refine iteF ?_
  | with_reducible refine ⟨_, frz_per, ?_⟩
  | with_reducible refine ⟨_, frz_own, ?_⟩
  | refine ⟨_, rfl, ?_⟩
  | refine ⟨_, argD1, ?_⟩
  | refine ⟨_, argD2, ?_⟩
  | refine ⟨_, argD0, ?_⟩
  | refine ⟨_, argD3, ?_⟩
  | refine ⟨_, argD4, ?_⟩
  | refine ⟨_, _, rfl, rfl, rfl, ?_⟩
  | refine ⟨_, _, _, rfl, rfl, rfl, ?_⟩
  | refine ⟨(by simp only [List.length_cons, List.length_nil]; decide), ?_⟩
  | refine ⟨rfl, nd1, ?_⟩
  | refine ⟨rfl, nd0, ?_⟩
  | refine ⟨_, argD8, ?_⟩
  | refine ⟨_, argD10, ?_⟩)
local macro_rules | `(tactic| walk_at "p") => `(tactic| refine ⟨_, _, rfl, (by omega), (by first | decide | omega), (by first | decide | omega), ?_⟩)
local macro_rules | `(tactic| walk_at "n") => `(tactic| try dsimp only [back, List.set_cons_zero, List.set_cons_succ, List.map_cons, List.map_nil, List.cons_append, List.nil_append])
local macro_rules | `(tactic| walk_at "q") => `(tactic| first | with_reducible refine ws_seqP (ws_par (by with_unfolding_all exact rfl) (by with_unfolding_all exact rfl) ?_) | refine ⟨_, _, rfl, ?_⟩ | walk_at "v")
theorem wholes_int74 {ns : List Int} : wholesD (rowI ns) = true := by
  show ((ns.map PyData.int).all _) = true
  rw [List.all_map, List.all_eq_true]
  intro x _
  rfl
theorem fz_rows {rows : List (List Int)} : Frz (own2 (rows.map rowN)) (dP (.list (rows.map rowI))) := by
  have e := frz_own2 (dss := rows.map rowN)
  rw [List.map_map] at e
  exact e
abbrev t_law_right_0 (K : PySem.W.Frag) (a : Ad) : TS :=
  (tSeq (tAsg (tOp (rModI) (tCB (rInt1) (tCons (tCall (sp_law_hue K) [] E0 (tCons (tVar 0) tNil)) tNil)) (tOp (rIx K) (tLst (tCons (tOp (rPowI) (tC (.int 10)) (tC (.int 30))) (tCons (tOp (rPowI) (tC (.int 10)) (tC (.int 9))) tNil))) (tCB (rInt1) (tCons (tVar 2) tNil)))) (gName 6))
    (tIfS (tTest (tOp (rNotInD K) (tVar 6) (tVar 4))) (tDrop (tBM K "list" (rAppend) (tVar 4) (tCons (tVar 6) tNil))) tNext))
abbrev t_law_right_1 (K : PySem.W.Frag) (a : Ad) : TS :=
  (tSeq (tFor (iRng1 (tCons (tCall (sp_law_pick K) [] E0 (tCons (tVar 0) (tCons (tOp (rIx K) (tLst (tCons (tC (.int 5)) (tCons (tC (.int 3)) tNil))) (tCB (rInt1) (tCons (tVar 2) tNil))) tNil))) tNil)) (gName 5) (t_law_right_0 K a))
    (tDrop (tBM K "list" (rAppend) (tVar 1) (tCons (tCB (rSortA K) (tCons (tVar 4) tNil)) tNil))))
abbrev t_law_right_2 (K : PySem.W.Frag) (a : Ad) : TS :=
  (tSeq (tIfS (tTest (tOp (rNeD K) (tVar 11) (tLc (iList K (tVar 1)) (gName 4) tYes (tOp (rPlus K) (tVar 4) (tLst (tCons (tVar 9) tNil))) [4]))) (tRet (tC (.bl false))) tNext)
    (tDrop (tBM K "list" (rAppend) (tVar 11) (tCons (tLst (tCons (tVar 9) tNil)) tNil))))
abbrev t_law_right_3 (K : PySem.W.Frag) (a : Ad) : TS :=
  (tSeq (tIfS (tTest (tOp (rNeD K) (tCall (sp_show_lists K) [] E0 (tCons (tVar 11) tNil)) (tVar 7))) (tRet (tC (.bl false))) tNext)
    (tSeq (tFor (iList K (tVar 11)) (gName 4) (tDrop (tBM K "list" (rAppend) (tVar 4) (tCons (tVar 9) tNil))))
    (t_law_right_2 K a)))
abbrev t_law_right_4 (K : PySem.W.Frag) (a : Ad) : TS :=
  (tSeq (tIfS (tOr (tNot (tB (tCB (rIsiA K) (tCons (tVar 11) (tCons (tC (.ty "list")) tNil))))) (tOr (tNot (tB (tCB (rAllA K) (tCons (tLc (iList K (tVar 11)) (gName 4) tYes (tCall (sp_law_wholes K) [] E0 (tCons (tVar 4) tNil)) [4]) tNil)))) (tTest (tOp (rNeD K) (tVar 11) (tVar 1))))) (tRet (tC (.bl false))) tNext)
    (t_law_right_3 K a))
abbrev t_law_right_5 (K : PySem.W.Frag) (a : Ad) : TS :=
  (tSeq (tIfS (tOr (tNot (tB (tCB (rIsiA K) (tCons (tVar 10) (tCons (tC (.ty "str")) tNil))))) (tOr (tTest (tOp (rNeD K) (tVar 10) (tVar 7))) (tTest (tOp (rNeD K) (tVar 8) (tVar 1))))) (tRet (tC (.bl false))) tNext)
    (tSeq (tAsg (tCall (sp_read_lists K a) [] E0 (tCons (tVar 7) tNil)) (gName 11))
    (t_law_right_4 K a)))
abbrev t_law_right_6 (K : PySem.W.Frag) (a : Ad) : TS :=
  (tSeq (tFor (iRng1 (tCons (tC (.int 2)) tNil)) (gName 9) (tSeq (tAsg (tCall (sp_show_lists K) [] E0 (tCons (tVar 8) tNil)) (gName 10))
    (t_law_right_5 K a)))
    (tRet (tC (.bl true))))
abbrev t_law_right_7 (K : PySem.W.Frag) (a : Ad) : TS :=
  (tSeq (tAsg (tCall (sp_law_written K) [] E0 (tCons (tVar 1) tNil)) (gName 7))
    (tSeq (tAsg (tLc (iList K (tVar 1)) (gName 4) tYes (tCB (rListOf K) (tCons (tVar 4) tNil)) [4]) (gName 8))
    (t_law_right_6 K a)))
abbrev t_law_right_8 (K : PySem.W.Frag) (a : Ad) : TS :=
  (tSeq (tFor (iRng1 (tCons (tCall (sp_law_pick K) [] E0 (tCons (tVar 0) (tCons (tOp (rIx K) (tLst (tCons (tC (.int 13)) (tCons (tC (.int 41)) tNil))) (tCB (rInt1) (tCons (tVar 2) tNil))) tNil))) tNil)) (gName 3) (tSeq (tAsg (tLst tNil) (gName 4))
    (t_law_right_1 K a)))
    (t_law_right_7 K a))
abbrev t_law_right_9 (K : PySem.W.Frag) (a : Ad) : TS :=
  (tSeq (tAsg (tOp (rEqD K) (tCall (sp_law_pick K) [] E0 (tCons (tVar 0) (tCons (tC (.int 8)) tNil))) (tC (.int 7))) (gName 2))
    (t_law_right_8 K a))
def t_law_right (K : PySem.W.Frag) (a : Ad) : TS :=
  (tSeq (tAsg (tLst tNil) (gName 1))
    (t_law_right_9 K a))
abbrev N_law_right : List Str := ["urn", "rows", "many", "place", "row", "k", "hue", "due", "passed", "turn", "found", "again"]
abbrev F_law_right (a : Ad) : Fw := fun gs kk xx => ∃ (m : Nat), gs = [urn m] ∧ 5000 ≤ m ∧ kk (dat (.bool true)) [none]
abbrev sp_law_right (K : PySem.W.Frag) (a : Ad) : Sp := SpG 1 (F_law_right a)
theorem pure_law_right {K : PySem.W.Frag} {a : Ad} {vs : List V} {H : Hp} {Q : VK} {E : XK} (h : sp_law_right K a vs H Q E) :
    t_law_right K a { nx := fun _ H' => Q .non H', rt := Q } (L2.start N_law_right vs) H := by
  refine body_ok (fun i => i == 0) ?_ h
  rintro gs kk xx ⟨m, rfl, hm, hk⟩ -
  unfold t_law_right
  show WS _ _ [some (urn m), none, none, none, none, none, none, none, none, none, none, none] _
  refine ws_seq (ws_asg rfl (we_lst (wa_nil ⟨[], argD0, by simp, ?_⟩)))
  walk_at "n"
  refine ws_seqA ?_
  repeat walk_at "v"
  walk_at "p"
  intro r r0 r1
  repeat walk_at "v"
  generalize hmany : decide (r = 7) = many
  show WS _ _ [some (urn (m - 1)), some (own []), some (dat (.bool many)), none, none, none, none, none, none, none, none, none] _
  refine ws_seq (ws_forF (fun i : Nat => .int (i : Int)) (fun pre Γ => ∃ (m1 : Nat) (rows : List (List Int)) (o3 o4 o5 o6 : Option Gp), Γ = [some (urn m1), some (own (rows.map rowI)), some (dat (.bool many)), o3, o4, o5, o6, none, none, none, none, none] ∧ m ≤ m1 + 2 + 50 * pre.length ∧ rows.length = pre.length ∧ ∀ r ∈ rows, RowK r) (wil_range1 ?_))
  repeat walk_at "v"
  obtain ⟨b, hb, b0, b1⟩ : ∃ b : Int, atI [PyData.int 13, PyData.int 41] (if many = true then 1 else 0) = some (.int b) ∧ 1 ≤ b ∧ b ≤ 41 := by
    split
    · exact ⟨41, rfl, by decide, by decide⟩
    · exact ⟨13, rfl, by decide, by decide⟩
  refine ok_ixL hb ?_
  repeat walk_at "v"
  refine ⟨_, _, rfl, by omega, by omega, by omega, fun n n0 n1 => ?_⟩
  repeat walk_at "v"
  refine ⟨by omega, by omega, List.range n.toNat, rfl, ⟨_, [], _, _, _, _, rfl, by simp only [List.length_nil]; omega, rfl, fun r hr => nomatch hr⟩, ?_, ?_⟩
  rotate_left
  · rintro pre i post _ hs ⟨m1, rows, o3, o4, o5, o6, rfl, h1, h2, h3⟩
    obtain ⟨rfl, hlt⟩ := range_split hs
    refine wg_name rfl ?_
    walk_at "n"
    refine ws_seq (ws_asg rfl (we_lst (wa_nil ⟨[], argD0, by simp, ?_⟩)))
    walk_at "n"
    refine ws_seq (ws_forF (fun i : Nat => .int (i : Int)) (fun pre2 Γ => ∃ (m2 : Nat) (row : List Int) (o5 o6 : Option Gp), Γ = [some (urn m2), some (own (rows.map rowI)), some (dat (.bool many)), some (dat (.int (pre.length : Int))), some (own (row.map .int)), o5, o6, none, none, none, none, none] ∧ m1 ≤ m2 + 1 + 8 * pre2.length ∧ row.length ≤ pre2.length ∧ row.Nodup ∧ ∀ h ∈ row, 0 ≤ h ∧ h < 10 ^ 30) (wil_range1 ?_))
    repeat walk_at "v"
    obtain ⟨b', hb', b0', b1'⟩ : ∃ b : Int, atI [PyData.int 5, PyData.int 3] (if many = true then 1 else 0) = some (.int b) ∧ 1 ≤ b ∧ b ≤ 5 := by
      split
      · exact ⟨3, rfl, by decide, by decide⟩
      · exact ⟨5, rfl, by decide, by decide⟩
    refine ok_ixL hb' ?_
    repeat walk_at "v"
    refine ⟨_, _, rfl, by omega, by omega, by omega, fun k k0 k1 => ?_⟩
    repeat walk_at "v"
    refine ⟨by omega, by omega, List.range k.toNat, rfl, ⟨_, [], _, _, rfl, by simp only [List.length_nil]; omega, Nat.le_refl _, List.nodup_nil, fun r hr => nomatch hr⟩, ?_, ?_⟩
    · rintro _ ⟨m2, row, o5, o6, rfl, g1, g2, g3, g4⟩
      rw [List.length_range] at g1 g2
      refine ws_drop (we_mt (i := 1) rfl (wa_cons (wq_of (we_cbK (wa_cons (wq_of (we_varF rfl frz_own ⟨_, frz_per, wa_nil ⟨_, argD1, ck_sortI fun ns hp hsr => ?_⟩⟩)))))))
      have hrk : RowK ns := ⟨(hsr.and (List.nodup_iff_pairwise_ne.mp (hp.nodup_iff.mpr g3))).imp fun {a b} h => by omega, fun h hh => g4 h (hp.mem_iff.mp hh), by rw [hp.length_eq]; omega⟩
      refine ⟨_, frz_own, wa_nil ⟨_, _, _, _, rfl, argD1, mo_append (by rw [List.length_map]; omega), ?_⟩⟩
      rw [show rows.map rowI ++ [PyData.list (ns.map .int)] = (rows ++ [ns]).map rowI from by rw [List.map_append]; rfl]
      refine ⟨m2, rows ++ [ns], _, _, _, _, rfl, by rw [List.length_append, List.length_singleton]; omega, by rw [List.length_append, List.length_append, h2]; rfl, fun x hx => ?_⟩
      rcases List.mem_append.mp hx with hx | hx
      · exact h3 x hx
      · rw [List.mem_singleton.mp hx]; exact hrk
    · rintro pre2 i post2 _ hs2 ⟨m2, row, o5, o6, rfl, g1, g2, g3, g4⟩
      obtain ⟨rfl, hlt2⟩ := range_split hs2
      refine wg_name rfl ?_
      walk_at "n"
      show WS _ _ [some (urn m2), some (own (rows.map rowI)), some (dat (.bool many)), some (dat (.int (pre.length : Int))), some (own (row.map .int)), some (dat (.int (pre2.length : Int))), o6, none, none, none, none, none] _
      refine ws_seqA ?_
      repeat walk_at "v"
      refine ⟨by omega, fun h h0 hh1 => ?_⟩
      repeat walk_at "v"
      refine ok_pow (cpow_of (by decide) (by decide) (by decide)) ?_
      repeat walk_at "v"
      refine ok_pow (cpow_of (by decide) (by decide) (by decide)) ?_
      repeat walk_at "v"
      obtain ⟨b2, hb2, b20, b21⟩ : ∃ b : Int, atI [PyData.int (10 ^ (30 : Int).toNat), PyData.int (10 ^ (9 : Int).toNat)] (if many = true then 1 else 0) = some (.int b) ∧ 0 < b ∧ b ≤ 10 ^ 30 := by
        split
        · exact ⟨_, rfl, by decide, by decide⟩
        · exact ⟨_, rfl, by decide, by decide⟩
      refine ok_ixL hb2 ?_
      repeat walk_at "v"
      have hz0 : 0 ≤ h % b2 := Int.emod_nonneg _ (by omega)
      have hz1 : h % b2 < 10 ^ 30 := Int.lt_of_lt_of_le (Int.emod_lt_of_pos _ b20) b21
      generalize h % b2 = z at hz0 hz1
      refine ⟨⟨lay_int.shaped, lay_ints.shaped⟩, ?_⟩
      rw [any_ints]
      refine ⟨_, frz_per, _, rfl, ?_⟩
      refine ite_ndec (fun hni => ?_) fun hni => ws_next ⟨m2 - 8, row, _, _, rfl, by rw [List.length_append, List.length_singleton]; omega, by rw [List.length_append, List.length_singleton]; omega, g3, g4⟩
      repeat walk_at "v"
      refine ⟨_, _, _, _, rfl, argD1, mo_append (by rw [List.length_map]; omega), ?_⟩
      refine ⟨m2 - 8, row ++ [z], _, _, by rw [List.map_append]; rfl, by rw [List.length_append, List.length_singleton]; omega, by rw [List.length_append, List.length_append]; exact Nat.add_le_add_right g2 1, List.nodup_append.mpr ⟨g3, by simp, fun a ha b hb e => hni (by rw [← List.mem_singleton.mp hb, ← e]; exact ha)⟩, fun x hx => ?_⟩
      rcases List.mem_append.mp hx with hx | hx
      · exact g4 x hx
      · rw [List.mem_singleton.mp hx]; exact ⟨hz0, hz1⟩
  rintro _ ⟨m1, rows, o3, o4, o5, o6, rfl, h1, h2, h3⟩
  rw [List.length_range] at h2
  have hrk : RowsK rows := ⟨by omega, h3⟩
  have hsh : SeqAt.shaped (.str (listsS rows)) = true := (lay_str (lists_ok hrk)).shaped
  walk_at "n"
  refine ws_frz (i := 1) rfl frz_own ?_
  refine ws_non 3 ?_
  refine ws_non 4 ?_
  refine ws_non 5 ?_
  refine ws_non 6 ?_
  walk_at "n"
  show WS _ _ [some (urn m1), some (dat (.list (rows.map rowI))), some (dat (.bool many)), none, none, none, none, none, none, none, none, none] _
  refine ws_seq (ws_asg rfl (we_call (wa_cons (wq_of (we_var rfl ⟨_, frz_per, wa_nil ⟨rfl, nd0, rows, rfl, hrk, ?_⟩⟩)))))
  walk_at "n"
  refine ws_seq (ws_asg rfl (we_lcM rowI rowI id (wil_list (wq_of (we_var rfl ⟨_, frz_per, _, rfl, rows, rfl, rfl, by omega, fun r hr => ?_, ?_⟩)))))
  · refine wg_name rfl ?_
    walk_at "n"
    exact wq_of (we_cbK (wa_cons (wq_of (we_var rfl ⟨_, frz_per, wa_nil ⟨_, argD1, ck_list ⟨_, frz_own, rfl, rfl⟩⟩⟩))))
  rw [List.map_id]
  walk_at "n"
  refine ws_frz (i := 8) rfl frz_own ?_
  walk_at "n"
  show WS _ _ [some (urn m1), some (dat (.list (rows.map rowI))), some (dat (.bool many)), none, none, none, none, some (dat (.str (listsS rows))), some (dat (.list (rows.map rowI))), none, none, none] _
  refine ws_seq (ws_forF (fun i : Nat => .int (i : Int)) (fun pre Γ => ∃ (o9 o10 o11 : Option Gp), Γ = [some (urn m1), some (dat (.list (rows.map rowI))), some (dat (.bool many)), none, none, none, none, some (dat (.str (listsS rows))), some (dat (.list (rows.map rowI))), o9, o10, o11]) (wil_range1 ?_))
  repeat walk_at "v"
  refine ⟨by omega, by omega, List.range 2, rfl, ⟨_, _, _, rfl⟩, ?_, ?_⟩
  · rintro _ ⟨o9, o10, o11, rfl⟩
    exact ws_ret (we_bl ⟨_, _, Ent.refl, les_none les_nil, hk⟩)
  · rintro pre i post _ hs ⟨o9, o10, o11, rfl⟩
    refine wg_name rfl ?_
    refine ws_non 10 ?_
    refine ws_non 11 ?_
    walk_at "n"
    refine ws_seq (ws_asg rfl (we_call (wa_cons (wq_of (we_var rfl ⟨_, frz_per, wa_nil ⟨rfl, nd0, rows, rfl, hrk, ?_⟩⟩)))))
    walk_at "n"
    refine ws_seqI (ws_if (wt_or (wt_not (wt_B (wq_of (we_isi (wq_of (we_var rfl ⟨_, frz_per, .str (listsS rows), rfl, "str", true, rfl, by decide +kernel, _, frz_per, _, rfl, iteF ?_⟩))))))))
    refine wt_or (wt_test (wq_of (we_opK (wq_of (we_var rfl ⟨_, frz_per, _, rfl, wq_of (we_var rfl ⟨_, frz_per, _, rfl, ok_ne hsh hsh ?_⟩)⟩)))))
    rw [eqv_str, decide_eq_true rfl]
    refine ⟨_, frz_per, _, rfl, iteF ?_⟩
    refine wt_test (wq_of (we_opK (wq_of (we_var rfl ⟨_, frz_per, _, rfl, wq_of (we_var rfl ⟨_, frz_per, _, rfl, ?_⟩)⟩))))
    refine ok_neE enc_row.lst (x := rows) (y := rows) ⟨_, frz_per, _, rfl, ?_⟩
    refine ite_ndec (fun h => absurd rfl h) fun _ => ws_next ?_
    refine ws_seq (ws_asg rfl (we_call (wa_cons (wq_of (we_var rfl ⟨_, frz_per, wa_nil ⟨rfl, nd0, rows, rfl, hrk, ?_⟩⟩)))))
    walk_at "n"
    show WS _ _ [some (urn m1), some (dat (.list (rows.map rowI))), some (dat (.bool many)), none, none, none, none, some (dat (.str (listsS rows))), some (dat (.list (rows.map rowI))), some (dat (.int (i : Int))), some (dat (.str (listsS rows))), some (own2 (rows.map rowN))] _
    have st : ∀ qss : List (List Int), Still [some (urn m1), some (dat (.list (rows.map rowI))), some (dat (.bool many)), none, none, none, none, some (dat (.str (listsS rows))), some (dat (.list (rows.map rowI))), some (dat (.int (i : Int))), some (dat (.str (listsS rows))), some (own2 (qss.map rowN))] [none, some (dat (.list (rows.map rowI))), none, none, none, none, none, some (dat (.str (listsS rows))), none, some (dat (.int (i : Int))), none, some (dat (.list (qss.map rowI)))] :=
      fun qss => (StillL.non (.per (.non (.non (.non (.non (.non (.per (.non (.per (.non (.frz fz_rows .nil)))))))))))).still
    refine ws_seqI (ws_if (wt_or (wt_not (wt_B (wq_of (we_still (st rows) (we_isLst (wq_of (we_var rfl ⟨_, frz_per, _, rfl, _, rfl, rfl, _, frz_per, _, rfl, iteF ?_⟩)))))))))
    refine wt_or (wt_not (wt_B (wq_of (we_still (st rows) (we_cbK (wa_cons (wq_of (we_lcM rowI .bool (fun _ => true) (wil_list (wq_of (we_var rfl ⟨_, frz_per, _, rfl, rows, rfl, rfl, by omega, fun r hr => ?_, ?_⟩)))))))))))
    · have hrl := (h3 r hr).few
      refine wg_name rfl ?_
      walk_at "n"
      refine wq_of (we_call (wa_cons (wq_of (we_var rfl ⟨_, frz_per, wa_nil ⟨rfl, nd0, rowI r, rfl, fun ds e => by cases e; rw [List.length_map]; omega, ?_⟩⟩))))
      rw [wholes_int74]
      exact ⟨_, frz_per, rfl, rfl⟩
    refine ⟨_, frz_own, wa_nil ⟨_, argD1, ck_allF ?_⟩⟩
    rw [show (rows.all fun _ => true) = true from List.all_eq_true.mpr fun _ _ => rfl]
    refine ⟨_, rfl, rfl, _, frz_per, _, rfl, iteF ?_⟩
    refine wt_test (wq_of (we_still (st rows) (we_opK (wq_of (we_var rfl ⟨_, frz_per, _, rfl, wq_of (we_var rfl ⟨_, frz_per, _, rfl, ?_⟩)⟩)))))
    refine ok_neE enc_row.lst (x := rows) (y := rows) ⟨_, rfl, rfl, _, frz_per, _, rfl, ?_⟩
    refine ite_ndec (fun h => absurd rfl h) fun _ => ws_next ?_
    refine ws_seqI (ws_if (wt_test (wq_of (we_still (st rows) (we_opK (wq_of (we_call (wa_cons (wq_of (we_var rfl ⟨_, frz_per, wa_nil ⟨rfl, nd0, rows, rfl, hrk, ?_⟩⟩))))))))))
    refine ⟨_, frz_per, _, rfl, wq_of (we_var rfl ⟨_, frz_per, _, rfl, ok_ne hsh hsh ?_⟩)⟩
    rw [eqv_str, decide_eq_true rfl]
    refine ⟨_, rfl, rfl, _, frz_per, _, rfl, iteF (ws_next ?_)⟩
    refine ws_seq (ws_forApp (i := 11) (p := 9) (r := 4) rfl rfl (by show 4 < 12; decide) (by decide) (by decide) (by decide) rfl (fun ds hds => ?_) ?_)
    · obtain ⟨r, hr, rfl⟩ := List.mem_map.mp hds
      have := (h3 r hr).few
      show (r.map PyData.int).length < _
      rw [List.length_map]
      omega
    rw [show (rows.map rowN).map (· ++ [PyData.int (i : Int)]) = (rows.map fun r => r ++ [(i : Int)]).map rowN from by
      rw [List.map_map, List.map_map]
      refine List.map_congr_left fun r _ => ?_
      show r.map PyData.int ++ [PyData.int (i : Int)] = (r ++ [(i : Int)]).map PyData.int
      rw [List.map_append]; rfl]
    show WS _ _ [some (urn m1), some (dat (.list (rows.map rowI))), some (dat (.bool many)), none, none, none, none, some (dat (.str (listsS rows))), some (dat (.list (rows.map rowI))), some (dat (.int (i : Int))), some (dat (.str (listsS rows))), some (own2 ((rows.map fun r => r ++ [(i : Int)]).map rowN))] _
    refine ws_seqI (ws_if (wt_test (wq_of (we_still (st (rows.map fun r => r ++ [(i : Int)])) (we_opK (wq_of (we_var rfl ⟨_, frz_per, _, rfl, wq_of ?_⟩)))))))
    refine we_lcM rowI rowI (fun r => r ++ [(i : Int)]) (wil_list (wq_of (we_var rfl ⟨_, frz_per, _, rfl, rows, rfl, rfl, by omega, fun r hr => ?_, ?_⟩)))
    · have hrl := (h3 r hr).few
      refine wg_name rfl ?_
      walk_at "n"
      refine wq_of (we_opK (wq_of (we_var rfl ⟨_, frz_per, _, rfl, wq_of (we_lst (wa_cons (wq_of (we_var rfl ⟨_, frz_per, wa_nil ⟨[_], argD1, by simp, _, frz_own, _, rfl, ok_plusL ?_ ?_⟩⟩))))⟩)))
      · rw [List.length_map]; simp; omega
      · refine ⟨_, frz_own, ?_, rfl⟩
        show dP (.list (r.map PyData.int ++ [PyData.int (i : Int)])) = dP (.list ((r ++ [(i : Int)]).map .int))
        rw [List.map_append]
        rfl
    refine ⟨_, frz_own, _, rfl, ok_neE enc_row.lst (x := rows.map fun r => r ++ [(i : Int)]) (y := rows.map fun r => r ++ [(i : Int)]) ⟨_, rfl, rfl, _, frz_per, _, rfl, ?_⟩⟩
    refine ite_ndec (fun h => absurd rfl h) fun _ => ws_next ?_
    refine ws_drop (we_app2 (i := 11) rfl (we_lst (wa_cons (wq_of (we_var rfl ⟨_, frz_per, wa_nil ⟨[_], argD1, by simp, ?_⟩⟩)))))
    refine ⟨_, _, rfl, rfl, by rw [List.length_map, List.length_map]; omega, ?_⟩
    exact ⟨_, _, _, rfl⟩
abbrev t_law_0 (K : PySem.W.Frag) (a : Ad) : TS :=
  (tIfS (tNot (tB (tCall (sp_law_right K a) [] E0 (tCons (tCall (sp_law_urn K) [] E0 (tCons (tVar 0) (tCons (tVar 1) tNil))) tNil)))) (tRet (tC (.bl false))) tNext)
abbrev t_law_1 (K : PySem.W.Frag) (a : Ad) : TS :=
  (tSeq (tFor (iRng1 (tCons (tCB (rMax2) (tCons (tC (.int 1)) (tCons (tCB (rMin2) (tCons (tC (.int 4)) (tCons (tCB (rLenA K) (tCons (tVar 0) tNil)) tNil))) tNil))) tNil)) (gName 1) (t_law_0 K a))
    (tRet (tC (.bl true))))
def t_law (K : PySem.W.Frag) (a : Ad) : TS :=
  (t_law_1 K a)
abbrev N_law : List Str := ["script", "k"]
abbrev F_law (K : PySem.W.Frag) (a : Ad) : Fw := fun gs kk xx => ∃ (ns : List Int), gs = [per (scrP K ns)] ∧ ns.length ≤ 63 ∧ kk (dat (.bool true)) [none]
abbrev sp_law (K : PySem.W.Frag) (a : Ad) : Sp := SpG 1 (F_law K a)
theorem pure_law {K : PySem.W.Frag} {a : Ad} {vs : List V} {H : Hp} {Q : VK} {E : XK} (h : sp_law K a vs H Q E) :
    t_law K a { nx := fun _ H' => Q .non H', rt := Q } (L2.start N_law vs) H := by
  refine body_ok (fun i => false) ?_ h
  rintro gs kk xx ⟨ns, rfl, hn, hk⟩ -
  unfold t_law
  refine ws_seq ?_
  refine ws_for (fun i Γ => ∃ (o1 : Option Gp), Γ = [some (per (scrP K ns)), o1]) ?_
  refine wi_range1 ?_
  walk_at "go"
  refine ⟨?_, ?_, ⟨_, rfl⟩, ?_, ?_⟩
  · split <;> split <;> omega
  · split <;> split <;> omega
  · rintro Γ2 ⟨o1, rfl⟩
    walk_at "go"
    exact ⟨_, _, Ent.refl, les_none les_nil, hk⟩
  · rintro i Γ2 hi ⟨o1, rfl⟩
    refine wg_name rfl ?_
    refine ws_if (wt_not (wt_B (wq_of (we_call1 ?_))))
    walk_at "go"
    exact ⟨ns, 0 + (i : Int), rfl, by omega, hn, big, rfl, by unfold big; omega, _, frz_per, true, rfl, iteF (ws_next ⟨_, rfl⟩)⟩
end G

namespace G
open PySem PySem.Spec L2
abbrev FnP (K : PySem.W.Frag) (x qual : Str) (st : Stmt) (f : Addr) (fd : FuncData) : Prop := FunD K x qual (defArgs st) (defBody st) (defScope st) [] [] f fd
theorem sc_is_count : FnScope ["value"] ["value"] (defScope s_is_count) := ⟨rfl, rfl, rfl, by decide +kernel, rfl, by decide +kernel, by decide +kernel⟩
theorem sc_are_counts : FnScope ["value", "entry"] ["value"] (defScope s_are_counts) := ⟨rfl, rfl, rfl, by decide +kernel, rfl, by decide +kernel, by decide +kernel⟩
theorem sc_are_ascending_counts : FnScope ["value", "low", "high"] ["value"] (defScope s_are_ascending_counts) := ⟨rfl, rfl, rfl, by decide +kernel, rfl, by decide +kernel, by decide +kernel⟩
theorem sc_is_integer_word : FnScope ["word"] ["word"] (defScope s_is_integer_word) := ⟨rfl, rfl, rfl, by decide +kernel, rfl, by decide +kernel, by decide +kernel⟩
theorem sc_integers_of : FnScope ["words", "word"] ["words"] (defScope s_integers_of) := ⟨rfl, rfl, rfl, by decide +kernel, rfl, by decide +kernel, by decide +kernel⟩
theorem sc_hues_of_word : FnScope ["word", "hues"] ["word"] (defScope s_hues_of_word) := ⟨rfl, rfl, rfl, by decide +kernel, rfl, by decide +kernel, by decide +kernel⟩
theorem sc_word_of_hues : FnScope ["hues", "hue"] ["hues"] (defScope s_word_of_hues) := ⟨rfl, rfl, rfl, by decide +kernel, rfl, by decide +kernel, by decide +kernel⟩
theorem sc_show_lists : FnScope ["lists", "hues"] ["lists"] (defScope s_show_lists) := ⟨rfl, rfl, rfl, by decide +kernel, rfl, by decide +kernel, by decide +kernel⟩
theorem sc_read_lists : FnScope ["text", "lists", "word"] ["text"] (defScope s_read_lists) := ⟨rfl, rfl, rfl, by decide +kernel, rfl, by decide +kernel, by decide +kernel⟩
theorem sc_law_urn : FnScope ["script", "k", "cell"] ["script", "k"] (defScope s_law_urn) := ⟨rfl, rfl, rfl, by decide +kernel, rfl, by decide +kernel, by decide +kernel⟩
theorem sc_law_pick : FnScope ["urn", "many", "found", "turn", "mixed"] ["urn", "many"] (defScope s_law_pick) := ⟨rfl, rfl, rfl, by decide +kernel, rfl, by decide +kernel, by decide +kernel⟩
theorem sc_law_whole : FnScope ["value"] ["value"] (defScope s_law_whole) := ⟨rfl, rfl, rfl, by decide +kernel, rfl, by decide +kernel, by decide +kernel⟩
theorem sc_law_wholes : FnScope ["value", "one"] ["value"] (defScope s_law_wholes) := ⟨rfl, rfl, rfl, by decide +kernel, rfl, by decide +kernel, by decide +kernel⟩
theorem sc_law_hue : FnScope ["urn", "kind", "found", "k"] ["urn"] (defScope s_law_hue) := ⟨rfl, rfl, rfl, by decide +kernel, rfl, by decide +kernel, by decide +kernel⟩
theorem sc_law_written : FnScope ["rows", "words", "row", "hue"] ["rows"] (defScope s_law_written) := ⟨rfl, rfl, rfl, by decide +kernel, rfl, by decide +kernel, by decide +kernel⟩
theorem sc_law_right : FnScope ["urn", "rows", "many", "place", "row", "k", "hue", "due", "passed", "turn", "found", "again"] ["urn"] (defScope s_law_right) := ⟨rfl, rfl, rfl, by decide +kernel, rfl, by decide +kernel, by decide +kernel⟩
theorem sc_law : FnScope ["script", "k"] ["script"] (defScope s_law) := ⟨rfl, rfl, rfl, by decide +kernel, rfl, by decide +kernel, by decide +kernel⟩
structure Txt (K : PySem.W.Frag) (mg : Str → Option Value) (a : Ad) where
  g_InvalidText : mg "InvalidText" = some (.ref (He.ga K "InvalidText"))
  xF_InvalidText : PySem.W.excIn K (He.ga K "InvalidText") [.type "ValueError", .type "Exception", .type "BaseException", .type "object"] "ValueError.__new__" = true
  kF_InvalidText : PySem.W.keepIn K (.ref (He.ga K "InvalidText")) = true
  bF_InvalidText : PySem.W.subIn K (.ref (He.ga K "InvalidText")) (.type "BaseException") = some true
  tF_InvalidText : PySem.W.typeIn K (.ref (He.ga K "InvalidText")) = some (.type "type")
  f_is_count : Addr
  fd_is_count : FuncData
  F_is_count : FnP K "is_count" "is_count" s_is_count f_is_count fd_is_count
  g_is_count : mg "is_count" = some (.ref f_is_count)
  f_are_counts : Addr
  fd_are_counts : FuncData
  F_are_counts : FnP K "are_counts" "are_counts" s_are_counts f_are_counts fd_are_counts
  g_are_counts : mg "are_counts" = some (.ref f_are_counts)
  f_are_ascending_counts : Addr
  fd_are_ascending_counts : FuncData
  F_are_ascending_counts : FnP K "are_ascending_counts" "are_ascending_counts" s_are_ascending_counts f_are_ascending_counts fd_are_ascending_counts
  g_are_ascending_counts : mg "are_ascending_counts" = some (.ref f_are_ascending_counts)
  f_is_integer_word : Addr
  fd_is_integer_word : FuncData
  F_is_integer_word : FnP K "is_integer_word" "is_integer_word" s_is_integer_word f_is_integer_word fd_is_integer_word
  g_is_integer_word : mg "is_integer_word" = some (.ref f_is_integer_word)
  f_integers_of : Addr
  fd_integers_of : FuncData
  F_integers_of : FnP K "integers_of" "integers_of" s_integers_of f_integers_of fd_integers_of
  g_integers_of : mg "integers_of" = some (.ref f_integers_of)
  f_hues_of_word : Addr
  fd_hues_of_word : FuncData
  F_hues_of_word : FnP K "hues_of_word" "hues_of_word" s_hues_of_word f_hues_of_word fd_hues_of_word
  g_hues_of_word : mg "hues_of_word" = some (.ref f_hues_of_word)
  f_word_of_hues : Addr
  fd_word_of_hues : FuncData
  F_word_of_hues : FnP K "word_of_hues" "word_of_hues" s_word_of_hues f_word_of_hues fd_word_of_hues
  g_word_of_hues : mg "word_of_hues" = some (.ref f_word_of_hues)
  f_show_lists : Addr
  fd_show_lists : FuncData
  F_show_lists : FnP K "show_lists" "show_lists" s_show_lists f_show_lists fd_show_lists
  g_show_lists : mg "show_lists" = some (.ref f_show_lists)
  f_read_lists : Addr
  fd_read_lists : FuncData
  F_read_lists : FnP K "read_lists" "read_lists" s_read_lists f_read_lists fd_read_lists
  g_read_lists : mg "read_lists" = some (.ref f_read_lists)
  f_law_urn : Addr
  fd_law_urn : FuncData
  F_law_urn : FnP K "_law_urn" "_law_urn" s_law_urn f_law_urn fd_law_urn
  g_law_urn : mg "_law_urn" = some (.ref f_law_urn)
  f_law_pick : Addr
  fd_law_pick : FuncData
  F_law_pick : FnP K "_law_pick" "_law_pick" s_law_pick f_law_pick fd_law_pick
  g_law_pick : mg "_law_pick" = some (.ref f_law_pick)
  f_law_whole : Addr
  fd_law_whole : FuncData
  F_law_whole : FnP K "_law_whole" "_law_whole" s_law_whole f_law_whole fd_law_whole
  g_law_whole : mg "_law_whole" = some (.ref f_law_whole)
  f_law_wholes : Addr
  fd_law_wholes : FuncData
  F_law_wholes : FnP K "_law_wholes" "_law_wholes" s_law_wholes f_law_wholes fd_law_wholes
  g_law_wholes : mg "_law_wholes" = some (.ref f_law_wholes)
  f_law_copies : Addr
  fd_law_copies : FuncData
  F_law_copies : FnP K "_law_copies" "_law_copies" s_law_copies f_law_copies fd_law_copies
  g_law_copies : mg "_law_copies" = some (.ref f_law_copies)
  f_law_hue : Addr
  fd_law_hue : FuncData
  F_law_hue : FnP K "_law_hue" "_law_hue" s_law_hue f_law_hue fd_law_hue
  g_law_hue : mg "_law_hue" = some (.ref f_law_hue)
  f_law_written : Addr
  fd_law_written : FuncData
  F_law_written : FnP K "_law_written" "_law_written" s_law_written f_law_written fd_law_written
  g_law_written : mg "_law_written" = some (.ref f_law_written)
  f_law_right : Addr
  fd_law_right : FuncData
  F_law_right : FnP K "_law_right" "_law_right" s_law_right f_law_right fd_law_right
  g_law_right : mg "_law_right" = some (.ref f_law_right)
  f_law : Addr
  fd_law : FuncData
  F_law : FnP K "law" "law" s_law f_law fd_law
  g_law : mg "law" = some (.ref f_law)
  g_MOST_DIGITS : ∃ t, mg "MOST_DIGITS" = some (.int 30 t)
  z_all : mg "all" = none
  z_bool : mg "bool" = none
  z_int : mg "int" = none
  z_isinstance : mg "isinstance" = none
  z_len : mg "len" = none
  z_list : mg "list" = none
  z_max : mg "max" = none
  z_min : mg "min" = none
  z_range : mg "range" = none
  z_sorted : mg "sorted" = none
  z_str : mg "str" = none
  z_zip : mg "zip" = none
section
variable {P : Program} {w : World} {K : PySem.W.Frag} {mg : Str → Option Value} {base : Heap} {a : Ad}
theorem b_is_count (T : Txt K mg a) : Binds K T.fd_is_count ["value"] [] := T.F_is_count.bindsN fun _ _ _ _ _ _ us hl => match us, hl with | [_], _ => rfl
theorem ok_is_count (T : Txt K mg a) : FnOk P w K mg base CX0 1 T.f_is_count T.fd_is_count ["value"] (sp_is_count K) := by
  refine T.F_is_count.ok sc_is_count (fun vs H Q E h => SpG.len vs H Q E h) (fun cdv A outer s H vs Q E hr h => ⟨t_is_count K, PSs.nox ?_, pure_is_count h⟩)
  show PSs _ _ (t_is_count_0 K)
  exact (pss_one (ps_ret (pe_and (pe_callB c_isi (by rfl) T.z_isinstance bt_isinstance (pa_cons (pv 0) (pa_cons (pe_bltn (v := .ty "int") (by rfl) T.z_int bt_int rfl) pa_nil))) (pe_and (pe_not (pe_callB c_isi (by rfl) T.z_isinstance bt_isinstance (pa_cons (pv 0) (pa_cons (pe_bltn (v := .ty "bool") (by rfl) T.z_bool bt_bool rfl) pa_nil)))) (pe_one (pe_cmpR op_ge (pv 0) pe_int (nomark _)))))))
theorem b_is_integer_word (T : Txt K mg a) : Binds K T.fd_is_integer_word ["word"] [] := T.F_is_integer_word.bindsN fun _ _ _ _ _ _ us hl => match us, hl with | [_], _ => rfl
theorem ok_is_integer_word (T : Txt K mg a) : FnOk P w K mg base CX0 1 T.f_is_integer_word T.fd_is_integer_word ["word"] (sp_is_integer_word K) := by
  refine T.F_is_integer_word.ok sc_is_integer_word (fun vs H Q E h => SpG.len vs H Q E h) (fun cdv A outer s H vs Q E hr h => ⟨t_is_integer_word K, PSs.nox ?_, pure_is_integer_word h⟩)
  show PSs _ _ (t_is_integer_word_0 K)
  exact (pss_cons (ps_if (PW.pt (pw_or (pt_not (pt_val (pe_m0 PySem.F.slot_str_isascii PySem.F.type_str_isascii mt_isascii (pv 0)))) (pw_or (pt_not (pt_val (pe_m0 PySem.F.slot_str_isdigit PySem.F.type_str_isdigit mt_isdigit (pv 0)))) (pw_or1 (pt_cmpR op_gt (pe_callB c_len (by rfl) T.z_len bt_len (pa_cons (pv 0) pa_nil)) (pe_globI (by rfl) T.g_MOST_DIGITS) (nomark _)))))) (pss_one (ps_ret pe_bl)) pss_nil) (pss_one (ps_ret (pe_or (pe_cmpR (op_eqD hr.units) (pv 0) pe_str (nomark _)) (pe_one (pe_not (pe_m1 PySem.F.slot_str_startswith PySem.F.type_str_startswith mt_startswith (pv 0) pe_str)))))))
theorem b_word_of_hues (T : Txt K mg a) : Binds K T.fd_word_of_hues ["hues"] [] := T.F_word_of_hues.bindsN fun _ _ _ _ _ _ us hl => match us, hl with | [_], _ => rfl
theorem ok_word_of_hues (T : Txt K mg a) : FnOk P w K mg base CX0 1 T.f_word_of_hues T.fd_word_of_hues ["hues"] (sp_word_of_hues K) := by
  refine T.F_word_of_hues.ok sc_word_of_hues (fun vs H Q E h => SpG.len vs H Q E h) (fun cdv A outer s H vs Q E hr h => ⟨t_word_of_hues K, PSs.nox ?_, pure_word_of_hues h⟩)
  show PSs _ _ (t_word_of_hues_0 K)
  exact (pss_one (ps_ret (pe_ifExp (pt_truth (pv 0) (fun _ => rfl)) (pe_join pe_str (pe_lc (own := [("hue", 1)]) (g := (gName 1)) (tt := tYes) rfl sc_word_of_hues.nd (pi_list (pv 0)) (blkOk_by (own := [("hue", 1)]) (N := ["hues", "hue"]) (sc := defScope s_word_of_hues) (by decide +kernel)) (fun _ _ _ _ _ => (pg_name (i := 1) sc_word_of_hues.nd rfl (Or.inl rfl))) (fun _ _ _ _ _ => pts_nil) (fun _ _ _ _ _ => (pe_callTy c_strI (by rfl) T.z_str bt_str (pa_cons (pv 1) pa_nil))))) pe_str)))
theorem b_law_urn (T : Txt K mg a) : Binds K T.fd_law_urn ["script", "k"] [] := T.F_law_urn.bindsN fun _ _ _ _ _ _ us hl => match us, hl with | [_, _], _ => rfl
theorem ok_law_urn (T : Txt K mg a) : FnOk P w K mg base CX0 1 T.f_law_urn T.fd_law_urn ["script", "k"] (sp_law_urn K) := by
  refine T.F_law_urn.ok sc_law_urn (fun vs H Q E h => SpG.len vs H Q E h) (fun cdv A outer s H vs Q E hr h => ⟨t_law_urn K, PSs.nox ?_, pure_law_urn h⟩)
  exact (pss_cons (ps_set (i := 2) sc_law_urn.nd rfl (Or.inl rfl) (pe_op op_plus (pe_op op_mul pe_int (pv 1)) pe_int)) (pss_cons (ps_if (pt_cmpR op_lt (pv 1) (pe_callB c_len (by rfl) T.z_len bt_len (pa_cons (pv 0) pa_nil)) (nomark _)) (pss_one (ps_set (i := 2) sc_law_urn.nd rfl (Or.inl rfl) (pe_ix ix_seq (pv 0) (pv 1) (fun _ _ => rfl)))) pss_nil) (pss_one (ps_ret (pe_lst (pa_cons (pe_callB (c_max rfl) (by rfl) T.z_max bt_max (pa_cons pe_int (pa_cons (pe_op op_sub (pv 2) (pe_op op_pow pe_int pe_int)) pa_nil))) (pa_cons (pe_op op_plus (pe_op op_mod (pe_callTy c_int (by rfl) T.z_int bt_int (pa_cons (pv 2) pa_nil)) (pe_op op_plus (pe_op op_pow pe_int pe_int) pe_int)) (pv 1)) (pa_cons pe_int pa_nil))))))))
theorem b_law_pick (T : Txt K mg a) : Binds K T.fd_law_pick ["urn", "many"] [] := T.F_law_pick.bindsN fun _ _ _ _ _ _ us hl => match us, hl with | [_, _], _ => rfl
theorem ok_law_pick (T : Txt K mg a) : FnOk P w K mg base CX0 1 T.f_law_pick T.fd_law_pick ["urn", "many"] (sp_law_pick K) := by
  refine T.F_law_pick.ok sc_law_pick (fun vs H Q E h => SpG.len vs H Q E h) (fun cdv A outer s H vs Q E hr h => ⟨t_law_pick K, PSs.nox ?_, pure_law_pick h⟩)
  exact (pss_cons (ps_if (pt_cmpR op_gt (pe_ix ix_seq (pv 0) pe_int (fun _ _ => rfl)) pe_int (nomark _)) (pss_cons (ps_set (i := 2) sc_law_pick.nd rfl (Or.inl rfl) (pe_op op_mod (pe_callTy c_int (by rfl) T.z_int bt_int (pa_cons (pe_ix ix_seq (pv 0) pe_int (fun _ _ => rfl)) pa_nil)) (pv 1))) (pss_cons (ps_asg (pe_op op_fdivW (pe_ix ix_seq (pv 0) pe_int (fun _ _ => rfl)) (pv 1)) (pg_sub (pv 0) pe_int set_list)) (pss_one (ps_ret (pv 2))))) pss_nil) (pss_cons (ps_asg (pe_op op_plus (pe_ix ix_seq (pv 0) pe_int (fun _ _ => rfl)) pe_int) (pg_sub (pv 0) pe_int set_list)) (pss_cons (ps_set (i := 3) sc_law_pick.nd rfl (Or.inl rfl) (pe_ix ix_seq (pv 0) pe_int (fun _ _ => rfl))) (pss_cons (ps_set (i := 4) sc_law_pick.nd rfl (Or.inl rfl) (pe_op op_mod (pe_callTy c_int (by rfl) T.z_int bt_int (pa_cons (pe_op op_plus (pe_op op_plus (pe_ix ix_seq (pv 0) pe_int (fun _ _ => rfl)) (pe_op op_mul (pv 3) pe_int)) (pe_op op_mul (pe_op op_mul (pv 3) (pv 3)) pe_int)) pa_nil)) pe_int)) (pss_cons (ps_set (i := 4) sc_law_pick.nd rfl (Or.inl rfl) (pe_op op_mod (pe_callTy c_int (by rfl) T.z_int bt_int (pa_cons (pe_op op_plus (pe_op op_plus (pe_op op_mul (pv 4) (pv 4)) (pe_op op_fdivW (pe_ix ix_seq (pv 0) pe_int (fun _ _ => rfl)) pe_int)) (pe_op op_mul pe_int (pv 3))) pa_nil)) pe_int)) (pss_cons (ps_set (i := 4) sc_law_pick.nd rfl (Or.inl rfl) (pe_op op_mod (pe_callTy c_int (by rfl) T.z_int bt_int (pa_cons (pe_op op_plus (pe_op op_mul (pe_op op_mul (pv 4) (pv 4)) pe_int) (pv 4)) pa_nil)) (pe_ix ix_seq (pe_lst (pa_cons pe_int (pa_cons pe_int (pa_cons pe_int (pa_cons pe_int pa_nil))))) (pe_op op_mod (pe_callTy c_int (by rfl) T.z_int bt_int (pa_cons (pv 3) pa_nil)) pe_int) (fun _ _ => rfl)))) (pss_one (ps_ret (pe_op op_mod (pe_callTy c_int (by rfl) T.z_int bt_int (pa_cons (pe_op op_fdivW (pv 4) pe_int) pa_nil)) (pv 1))))))))))
theorem b_law_whole (T : Txt K mg a) : Binds K T.fd_law_whole ["value"] [] := T.F_law_whole.bindsN fun _ _ _ _ _ _ us hl => match us, hl with | [_], _ => rfl
theorem ok_law_whole (T : Txt K mg a) : FnOk P w K mg base CX0 1 T.f_law_whole T.fd_law_whole ["value"] (sp_law_whole K) := by
  refine T.F_law_whole.ok sc_law_whole (fun vs H Q E h => SpG.len vs H Q E h) (fun cdv A outer s H vs Q E hr h => ⟨t_law_whole K, PSs.nox ?_, pure_law_whole h⟩)
  exact (pss_one (ps_ret (pe_and (pe_callB c_isi (by rfl) T.z_isinstance bt_isinstance (pa_cons (pv 0) (pa_cons (pe_bltn (v := .ty "int") (by rfl) T.z_int bt_int rfl) pa_nil))) (pe_one (pe_not (pe_callB c_isi (by rfl) T.z_isinstance bt_isinstance (pa_cons (pv 0) (pa_cons (pe_bltn (v := .ty "bool") (by rfl) T.z_bool bt_bool rfl) pa_nil))))))))
theorem b_law_written (T : Txt K mg a) : Binds K T.fd_law_written ["rows"] [] := T.F_law_written.bindsN fun _ _ _ _ _ _ us hl => match us, hl with | [_], _ => rfl
theorem ok_law_written (T : Txt K mg a) : FnOk P w K mg base CX0 1 T.f_law_written T.fd_law_written ["rows"] (sp_law_written K) := by
  refine T.F_law_written.ok sc_law_written (fun vs H Q E h => SpG.len vs H Q E h) (fun cdv A outer s H vs Q E hr h => ⟨t_law_written K, PSs.nox ?_, pure_law_written h⟩)
  exact (pss_cons (ps_set (i := 1) sc_law_written.nd rfl (Or.inl rfl) (pe_lst pa_nil)) (pss_cons (ps_for PassesOwn.never rfl (pi_list (pv 0)) (pg_name (i := 2) sc_law_written.nd rfl (Or.inl rfl)) (pss_one (ps_expr (pe_bm PySem.F.plainAttrs_list PySem.F.slot_list_append PySem.F.type_list_append mt_append (pv 1) (pa_cons (pe_ix ix_seq (pe_lst (pa_cons (pe_join pe_str (pe_lc (own := [("hue", 3)]) (g := (gName 3)) (tt := tYes) rfl sc_law_written.nd (pi_list (pv 2)) (blkOk_by (own := [("hue", 3)]) (N := ["rows", "words", "row", "hue"]) (sc := defScope s_law_written) (by decide +kernel)) (fun _ _ _ _ _ => (pg_name (i := 3) sc_law_written.nd rfl (Or.inl rfl))) (fun _ _ _ _ _ => pts_nil) (fun _ _ _ _ _ => (pe_callTy c_strI (by rfl) T.z_str bt_str (pa_cons (pv 3) pa_nil))))) (pa_cons pe_str pa_nil))) (pe_callTy c_int (by rfl) T.z_int bt_int (pa_cons (pe_cmpR (op_eqNil hr.units) (pv 2) (pe_lst pa_nil) (nomark _)) pa_nil)) (fun _ _ => rfl)) pa_nil))))) (pss_one (ps_ret (pe_ix ix_seq (pe_lst (pa_cons (pe_join pe_str (pv 1)) (pa_cons pe_str pa_nil))) (pe_callTy c_int (by rfl) T.z_int bt_int (pa_cons (pe_cmpR (op_eqNil hr.units) (pv 1) (pe_lst pa_nil) (nomark _)) pa_nil)) (fun _ _ => rfl))))))
theorem b_are_counts (T : Txt K mg a) : Binds K T.fd_are_counts ["value"] [] := T.F_are_counts.bindsN fun _ _ _ _ _ _ us hl => match us, hl with | [_], _ => rfl
theorem ok_are_counts (T : Txt K mg a) : FnOk P w K mg base CX0 2 T.f_are_counts T.fd_are_counts ["value"] (sp_are_counts K) := by
  refine T.F_are_counts.ok sc_are_counts (fun vs H Q E h => SpG.len vs H Q E h) (fun cdv A outer s H vs Q E hr h => ⟨t_are_counts K, PSs.nox ?_, pure_are_counts h⟩)
  show PSs _ _ (t_are_counts_0 K)
  exact (pss_one (ps_ret (pe_and (pe_callB c_isi (by rfl) T.z_isinstance bt_isinstance (pa_cons (pv 0) (pa_cons (pe_bltn (v := .ty "list") (by rfl) T.z_list bt_list rfl) pa_nil))) (pe_one (pe_callB (c_all rfl) (by rfl) T.z_all bt_all (pa_cons (pe_lc (own := [("entry", 1)]) (g := (gName 1)) (tt := tYes) rfl sc_are_counts.nd (pi_list (pv 0)) (blkOk_by (own := [("entry", 1)]) (N := ["value", "entry"]) (sc := defScope s_are_counts) (by decide +kernel)) (fun _ _ _ _ _ => (pg_name (i := 1) sc_are_counts.nd rfl (Or.inl rfl))) (fun _ _ _ _ _ => pts_nil) (fun _ _ _ _ _ => (pe_call (ok_is_count T) (hr.mono (by decide)) (by rfl) T.g_is_count T.F_is_count.kp (b_is_count T) .nil pass0 (pa_cons (pv 1) pa_nil)))) pa_nil))))))
theorem b_integers_of (T : Txt K mg a) : Binds K T.fd_integers_of ["words"] [] := T.F_integers_of.bindsN fun _ _ _ _ _ _ us hl => match us, hl with | [_], _ => rfl
theorem ok_integers_of (T : Txt K mg a) : FnOk P w K mg base CX0 2 T.f_integers_of T.fd_integers_of ["words"] (sp_integers_of K) := by
  refine T.F_integers_of.ok sc_integers_of (fun vs H Q E h => SpG.len vs H Q E h) (fun cdv A outer s H vs Q E hr h => ⟨t_integers_of K, PSs.nox ?_, pure_integers_of h⟩)
  show PSs _ _ (t_integers_of_0 K)
  exact (pss_cons (ps_if (pt_not (pt_val (pe_callB (c_all rfl) (by rfl) T.z_all bt_all (pa_cons (pe_lc (own := [("word", 1)]) (g := (gName 1)) (tt := tYes) rfl sc_integers_of.nd (pi_list (pv 0)) (blkOk_by (own := [("word", 1)]) (N := ["words", "word"]) (sc := defScope s_integers_of) (by decide +kernel)) (fun _ _ _ _ _ => (pg_name (i := 1) sc_integers_of.nd rfl (Or.inl rfl))) (fun _ _ _ _ _ => pts_nil) (fun _ _ _ _ _ => (pe_call (ok_is_integer_word T) (hr.mono (by decide)) (by rfl) T.g_is_integer_word T.F_is_integer_word.kp (b_is_integer_word T) .nil pass0 (pa_cons (pv 1) pa_nil)))) pa_nil)))) (pss_one (ps_ret pe_non)) pss_nil) (pss_one (ps_ret (pe_lc (own := [("word", 1)]) (g := (gName 1)) (tt := tYes) rfl sc_integers_of.nd (pi_list (pv 0)) (blkOk_by (own := [("word", 1)]) (N := ["words", "word"]) (sc := defScope s_integers_of) (by decide +kernel)) (fun _ _ _ _ _ => (pg_name (i := 1) sc_integers_of.nd rfl (Or.inl rfl))) (fun _ _ _ _ _ => pts_nil) (fun _ _ _ _ _ => (pe_callTy c_intT (by rfl) T.z_int bt_int (pa_cons (pv 1) pa_nil)))))))
theorem b_show_lists (T : Txt K mg a) : Binds K T.fd_show_lists ["lists"] [] := T.F_show_lists.bindsN fun _ _ _ _ _ _ us hl => match us, hl with | [_], _ => rfl
theorem ok_show_lists (T : Txt K mg a) : FnOk P w K mg base CX0 2 T.f_show_lists T.fd_show_lists ["lists"] (sp_show_lists K) := by
  refine T.F_show_lists.ok sc_show_lists (fun vs H Q E h => SpG.len vs H Q E h) (fun cdv A outer s H vs Q E hr h => ⟨t_show_lists K, PSs.nox ?_, pure_show_lists h⟩)
  show PSs _ _ (t_show_lists_0 K)
  exact (pss_one (ps_ret (pe_ifExp (pt_truth (pv 0) (fun _ => rfl)) (pe_join pe_str (pe_lc (own := [("hues", 1)]) (g := (gName 1)) (tt := tYes) rfl sc_show_lists.nd (pi_list (pv 0)) (blkOk_by (own := [("hues", 1)]) (N := ["lists", "hues"]) (sc := defScope s_show_lists) (by decide +kernel)) (fun _ _ _ _ _ => (pg_name (i := 1) sc_show_lists.nd rfl (Or.inl rfl))) (fun _ _ _ _ _ => pts_nil) (fun _ _ _ _ _ => (pe_call (ok_word_of_hues T) (hr.mono (by decide)) (by rfl) T.g_word_of_hues T.F_word_of_hues.kp (b_word_of_hues T) .nil pass0 (pa_cons (pv 1) pa_nil))))) pe_str)))
theorem b_law_wholes (T : Txt K mg a) : Binds K T.fd_law_wholes ["value"] [] := T.F_law_wholes.bindsN fun _ _ _ _ _ _ us hl => match us, hl with | [_], _ => rfl
theorem ok_law_wholes (T : Txt K mg a) : FnOk P w K mg base CX0 2 T.f_law_wholes T.fd_law_wholes ["value"] (sp_law_wholes K) := by
  refine T.F_law_wholes.ok sc_law_wholes (fun vs H Q E h => SpG.len vs H Q E h) (fun cdv A outer s H vs Q E hr h => ⟨t_law_wholes K, PSs.nox ?_, pure_law_wholes h⟩)
  show PSs _ _ (t_law_wholes_0 K)
  exact (pss_one (ps_ret (pe_and (pe_callB c_isi (by rfl) T.z_isinstance bt_isinstance (pa_cons (pv 0) (pa_cons (pe_bltn (v := .ty "list") (by rfl) T.z_list bt_list rfl) pa_nil))) (pe_one (pe_callB (c_all rfl) (by rfl) T.z_all bt_all (pa_cons (pe_lc (own := [("one", 1)]) (g := (gName 1)) (tt := tYes) rfl sc_law_wholes.nd (pi_list (pv 0)) (blkOk_by (own := [("one", 1)]) (N := ["value", "one"]) (sc := defScope s_law_wholes) (by decide +kernel)) (fun _ _ _ _ _ => (pg_name (i := 1) sc_law_wholes.nd rfl (Or.inl rfl))) (fun _ _ _ _ _ => pts_nil) (fun _ _ _ _ _ => (pe_call (ok_law_whole T) (hr.mono (by decide)) (by rfl) T.g_law_whole T.F_law_whole.kp (b_law_whole T) .nil pass0 (pa_cons (pv 1) pa_nil)))) pa_nil))))))
theorem b_law_hue (T : Txt K mg a) : Binds K T.fd_law_hue ["urn"] [] := T.F_law_hue.bindsN fun _ _ _ _ _ _ us hl => match us, hl with | [_], _ => rfl
theorem ok_law_hue (T : Txt K mg a) : FnOk P w K mg base CX0 2 T.f_law_hue T.fd_law_hue ["urn"] (sp_law_hue K) := by
  refine T.F_law_hue.ok sc_law_hue (fun vs H Q E h => SpG.len vs H Q E h) (fun cdv A outer s H vs Q E hr h => ⟨t_law_hue K, PSs.nox ?_, pure_law_hue h⟩)
  exact (pss_cons (ps_set (i := 1) sc_law_hue.nd rfl (Or.inl rfl) (pe_call (ok_law_pick T) (hr.mono (by decide)) (by rfl) T.g_law_pick T.F_law_pick.kp (b_law_pick T) .nil pass0 (pa_cons (pv 0) (pa_cons pe_int pa_nil)))) (pss_cons (ps_if (pt_cmpR (op_eqD hr.units) (pv 1) pe_int (nomark _)) (pss_one (ps_ret (pe_call (ok_law_pick T) (hr.mono (by decide)) (by rfl) T.g_law_pick T.F_law_pick.kp (b_law_pick T) .nil pass0 (pa_cons (pv 0) (pa_cons pe_int pa_nil))))) pss_nil) (pss_cons (ps_if (pt_cmpR (op_eqD hr.units) (pv 1) pe_int (nomark _)) (pss_one (ps_ret (pe_op op_plus (pe_op op_mul (pe_call (ok_law_pick T) (hr.mono (by decide)) (by rfl) T.g_law_pick T.F_law_pick.kp (b_law_pick T) .nil pass0 (pa_cons (pv 0) (pa_cons (pe_op op_pow pe_int pe_int) pa_nil))) pe_int) (pe_call (ok_law_pick T) (hr.mono (by decide)) (by rfl) T.g_law_pick T.F_law_pick.kp (b_law_pick T) .nil pass0 (pa_cons (pv 0) (pa_cons pe_int pa_nil)))))) pss_nil) (pss_cons (ps_set (i := 2) sc_law_hue.nd rfl (Or.inl rfl) pe_int) (pss_cons (ps_for PassesOwn.never rfl (pi_range1 (by rfl) T.z_range (pa_cons (pe_op op_plus pe_int (pe_call (ok_law_pick T) (hr.mono (by decide)) (by rfl) T.g_law_pick T.F_law_pick.kp (b_law_pick T) .nil pass0 (pa_cons (pv 0) (pa_cons pe_int pa_nil)))) pa_nil)) (pg_name (i := 3) sc_law_hue.nd rfl (Or.inl rfl)) (pss_one (ps_set (i := 2) sc_law_hue.nd rfl (Or.inl rfl) (pe_op op_plus (pe_op op_mul (pv 2) (pe_op op_pow pe_int pe_int)) (pe_call (ok_law_pick T) (hr.mono (by decide)) (by rfl) T.g_law_pick T.F_law_pick.kp (b_law_pick T) .nil pass0 (pa_cons (pv 0) (pa_cons (pe_op op_pow pe_int pe_int) pa_nil))))))) (pss_one (ps_ret (pv 2))))))))
theorem b_are_ascending_counts (T : Txt K mg a) : Binds K T.fd_are_ascending_counts ["value"] [] := T.F_are_ascending_counts.bindsN fun _ _ _ _ _ _ us hl => match us, hl with | [_], _ => rfl
theorem ok_are_ascending_counts (T : Txt K mg a) : FnOk P w K mg base CX0 3 T.f_are_ascending_counts T.fd_are_ascending_counts ["value"] (sp_are_ascending_counts K) := by
  refine T.F_are_ascending_counts.ok sc_are_ascending_counts (fun vs H Q E h => SpG.len vs H Q E h) (fun cdv A outer s H vs Q E hr h => ⟨t_are_ascending_counts K, PSs.nox ?_, pure_are_ascending_counts h⟩)
  exact (pss_cons (ps_if (pt_not (pt_val (pe_call (ok_are_counts T) (hr.mono (by decide)) (by rfl) T.g_are_counts T.F_are_counts.kp (b_are_counts T) .nil pass0 (pa_cons (pv 0) pa_nil)))) (pss_one (ps_ret pe_bl)) pss_nil) (pss_one (ps_ret (pe_callB (c_all rfl) (by rfl) T.z_all bt_all (pa_cons (pe_lc (own := [("low", 1), ("high", 2)]) (g := (gTup K 2 (gCons (gName 1) (gCons (gName 2) gNil)))) (tt := tYes) rfl sc_are_ascending_counts.nd (pi_zip (by rfl) T.z_zip (pa_cons (pv 0) (pa_cons (pe_slice sl_list (pv 0) (po_some pe_int) po_none) pa_nil))) (blkOk_by (own := [("low", 1), ("high", 2)]) (N := ["value", "low", "high"]) (sc := defScope s_are_ascending_counts) (by decide +kernel)) (fun _ _ _ _ _ => (pg_tup rfl (pgs_cons (pg_name (i := 1) sc_are_ascending_counts.nd rfl (Or.inl rfl)) (pgs_cons (pg_name (i := 2) sc_are_ascending_counts.nd rfl (Or.inl rfl)) pgs_nil)))) (fun _ _ _ _ _ => pts_nil) (fun _ _ _ _ _ => (pe_cmpR op_lt (pv 1) (pv 2) (nomark _)))) pa_nil)))))
theorem b_hues_of_word (T : Txt K mg a) : Binds K T.fd_hues_of_word ["word"] [] := T.F_hues_of_word.bindsN fun _ _ _ _ _ _ us hl => match us, hl with | [_], _ => rfl
theorem ok_hues_of_word (T : Txt K mg a) : FnOk P w K mg base CX0 4 T.f_hues_of_word T.fd_hues_of_word ["word"] (sp_hues_of_word K) := by
  refine T.F_hues_of_word.ok sc_hues_of_word (fun vs H Q E h => SpG.len vs H Q E h) (fun cdv A outer s H vs Q E hr h => ⟨t_hues_of_word K, PSs.nox ?_, pure_hues_of_word h⟩)
  exact (pss_cons (ps_if (pt_cmpR (op_eqD hr.units) (pv 0) pe_str (nomark _)) (pss_one (ps_ret (pe_lst pa_nil))) pss_nil) (pss_cons (ps_set (i := 1) sc_hues_of_word.nd rfl (Or.inl rfl) (pe_call (ok_integers_of T) (hr.mono (by decide)) (by rfl) T.g_integers_of T.F_integers_of.kp (b_integers_of T) .nil pass0 (pa_cons (pe_split (pv 0) pe_str) pa_nil))) (pss_one (ps_ret (pe_ifExp (pt_val (pe_call (ok_are_ascending_counts T) (hr.mono (by decide)) (by rfl) T.g_are_ascending_counts T.F_are_ascending_counts.kp (b_are_ascending_counts T) .nil pass0 (pa_cons (pv 1) pa_nil))) (pv 1) pe_non)))))
theorem b_read_lists (T : Txt K mg a) : Binds K T.fd_read_lists ["text"] [] := T.F_read_lists.bindsN fun _ _ _ _ _ _ us hl => match us, hl with | [_], _ => rfl
theorem ok_read_lists (T : Txt K mg a) : FnOk P w K mg base (L2.CX P w) 5 T.f_read_lists T.fd_read_lists ["text"] (sp_read_lists K a) := by
  refine T.F_read_lists.ok sc_read_lists (fun vs H Q E h => SpG.len vs H Q E h) (fun cdv A outer s H vs Q E hr h => ⟨t_read_lists K a E, ?_, pure_read_lists h⟩)
  show PSs _ _ (t_read_lists_1 K a E)
  exact (pss_cons (ps_if (pt_not (pt_val (pe_callB c_isi (by rfl) T.z_isinstance bt_isinstance (pa_cons (pv 0) (pa_cons (pe_bltn (v := .ty "str") (by rfl) T.z_str bt_str rfl) pa_nil))))) (pss_one (ps_raise rfl (takes_of rfl rfl rfl rfl) (pmk_own PySem.F.excBase_ValueError T.xF_InvalidText T.g_InvalidText T.kF_InvalidText (raises_own T.bF_InvalidText T.tF_InvalidText) (by exact rfl)))) pss_nil) (pss_cons (ps_if (pt_cmpR (op_eqD hr.units) (pv 0) pe_str (nomark _)) (pss_one (ps_ret (pe_lst pa_nil))) pss_nil) (pss_cons (ps_setLc (i := 1) (own := [("word", 2)]) (g := (gName 2)) (tt := tYes) rfl sc_read_lists.nd rfl rfl (sw_true rfl rfl rfl (by decide +kernel)) (pi_list (pe_split (pv 0) pe_str)) (blkOk_by (own := [("word", 2)]) (N := ["text", "lists", "word"]) (sc := defScope s_read_lists) (by decide +kernel)) (fun _ _ _ _ _ => (pg_name (i := 2) sc_read_lists.nd rfl (Or.inl rfl))) (fun _ _ _ _ _ => pts_nil) (fun _ _ _ _ _ => (pe_call (ok_hues_of_word T) (hr.mono (by decide)) (by rfl) T.g_hues_of_word T.F_hues_of_word.kp (b_hues_of_word T) .nil pass0 (pa_cons (pv 2) pa_nil)))) (pss_cons (ps_if (pt_cmpR (op_inD (un65 hr)) pe_non (pv 1) (by rfl)) (pss_one (ps_raise rfl (takes_of rfl rfl rfl rfl) (pmk_own PySem.F.excBase_ValueError T.xF_InvalidText T.g_InvalidText T.kF_InvalidText (raises_own T.bF_InvalidText T.tF_InvalidText) (by exact rfl)))) pss_nil) (pss_one (ps_ret (pv 1)))))))
theorem b_law_right (T : Txt K mg a) : Binds K T.fd_law_right ["urn"] [] := T.F_law_right.bindsN fun _ _ _ _ _ _ us hl => match us, hl with | [_], _ => rfl
theorem ok_law_right (T : Txt K mg a) : FnOk P w K mg base CX0 6 T.f_law_right T.fd_law_right ["urn"] (sp_law_right K a) := by
  refine T.F_law_right.ok sc_law_right (fun vs H Q E h => SpG.len vs H Q E h) (fun cdv A outer s H vs Q E hr h => ⟨t_law_right K a, PSs.nox ?_, pure_law_right h⟩)
  exact (pss_cons (ps_set (i := 1) sc_law_right.nd rfl (Or.inl rfl) (pe_lst pa_nil)) (pss_cons (ps_set (i := 2) sc_law_right.nd rfl (Or.inl rfl) (pe_cmpR (op_eqD hr.units) (pe_call (ok_law_pick T) (hr.mono (by decide)) (by rfl) T.g_law_pick T.F_law_pick.kp (b_law_pick T) .nil pass0 (pa_cons (pv 0) (pa_cons pe_int pa_nil))) pe_int (nomark _))) (pss_cons (ps_for PassesOwn.never rfl (pi_range1 (by rfl) T.z_range (pa_cons (pe_call (ok_law_pick T) (hr.mono (by decide)) (by rfl) T.g_law_pick T.F_law_pick.kp (b_law_pick T) .nil pass0 (pa_cons (pv 0) (pa_cons (pe_ix ix_seq (pe_lst (pa_cons pe_int (pa_cons pe_int pa_nil))) (pe_callTy c_int (by rfl) T.z_int bt_int (pa_cons (pv 2) pa_nil)) (fun _ _ => rfl)) pa_nil))) pa_nil)) (pg_name (i := 3) sc_law_right.nd rfl (Or.inl rfl)) (pss_cons (ps_set (i := 4) sc_law_right.nd rfl (Or.inl rfl) (pe_lst pa_nil)) (pss_cons (ps_for PassesOwn.never rfl (pi_range1 (by rfl) T.z_range (pa_cons (pe_call (ok_law_pick T) (hr.mono (by decide)) (by rfl) T.g_law_pick T.F_law_pick.kp (b_law_pick T) .nil pass0 (pa_cons (pv 0) (pa_cons (pe_ix ix_seq (pe_lst (pa_cons pe_int (pa_cons pe_int pa_nil))) (pe_callTy c_int (by rfl) T.z_int bt_int (pa_cons (pv 2) pa_nil)) (fun _ _ => rfl)) pa_nil))) pa_nil)) (pg_name (i := 5) sc_law_right.nd rfl (Or.inl rfl)) (pss_cons (ps_set (i := 6) sc_law_right.nd rfl (Or.inl rfl) (pe_op op_mod (pe_callTy c_int (by rfl) T.z_int bt_int (pa_cons (pe_call (ok_law_hue T) (hr.mono (by decide)) (by rfl) T.g_law_hue T.F_law_hue.kp (b_law_hue T) .nil pass0 (pa_cons (pv 0) pa_nil)) pa_nil)) (pe_ix ix_seq (pe_lst (pa_cons (pe_op op_pow pe_int pe_int) (pa_cons (pe_op op_pow pe_int pe_int) pa_nil))) (pe_callTy c_int (by rfl) T.z_int bt_int (pa_cons (pv 2) pa_nil)) (fun _ _ => rfl)))) (pss_one (ps_if (pt_cmpR (op_notInD (un65 hr)) (pv 6) (pv 4) (by rfl)) (pss_one (ps_expr (pe_bm PySem.F.plainAttrs_list PySem.F.slot_list_append PySem.F.type_list_append mt_append (pv 4) (pa_cons (pv 6) pa_nil)))) pss_nil)))) (pss_one (ps_expr (pe_bm PySem.F.plainAttrs_list PySem.F.slot_list_append PySem.F.type_list_append mt_append (pv 1) (pa_cons (pe_callB c_sorted (by rfl) T.z_sorted bt_sorted (pa_cons (pv 4) pa_nil)) pa_nil))))))) (pss_cons (ps_set (i := 7) sc_law_right.nd rfl (Or.inl rfl) (pe_call (ok_law_written T) (hr.mono (by decide)) (by rfl) T.g_law_written T.F_law_written.kp (b_law_written T) .nil pass0 (pa_cons (pv 1) pa_nil))) (pss_cons (ps_setLc (i := 8) (own := [("row", 4)]) (g := (gName 4)) (tt := tYes) rfl sc_law_right.nd rfl rfl (sw_true rfl rfl rfl (by decide +kernel)) (pi_list (pv 1)) (blkOk_by (own := [("row", 4)]) (N := ["urn", "rows", "many", "place", "row", "k", "hue", "due", "passed", "turn", "found", "again"]) (sc := defScope s_law_right) (by decide +kernel)) (fun _ _ _ _ _ => (pg_name (i := 4) sc_law_right.nd rfl (Or.inl rfl))) (fun _ _ _ _ _ => pts_nil) (fun _ _ _ _ _ => (pe_callTy c_list (by rfl) T.z_list bt_list (pa_cons (pv 4) pa_nil)))) (pss_cons (ps_for PassesOwn.never rfl (pi_range1 (by rfl) T.z_range (pa_cons pe_int pa_nil)) (pg_name (i := 9) sc_law_right.nd rfl (Or.inr rfl)) (pss_cons (ps_set (i := 10) sc_law_right.nd rfl (Or.inl rfl) (pe_call (ok_show_lists T) (hr.mono (by decide)) (by rfl) T.g_show_lists T.F_show_lists.kp (b_show_lists T) .nil pass0 (pa_cons (pv 8) pa_nil))) (pss_cons (ps_if (PW.pt (pw_or (pt_not (pt_val (pe_callB c_isi (by rfl) T.z_isinstance bt_isinstance (pa_cons (pv 10) (pa_cons (pe_bltn (v := .ty "str") (by rfl) T.z_str bt_str rfl) pa_nil))))) (pw_or (pt_cmpR (op_neD hr.units) (pv 10) (pv 7) (nomark _)) (pw_or1 (pt_cmpR (op_neD hr.units) (pv 8) (pv 1) (nomark _)))))) (pss_one (ps_ret pe_bl)) pss_nil) (pss_cons (ps_set (i := 11) sc_law_right.nd rfl (Or.inl rfl) (pe_call (ok_read_lists T) (hr.mono (by decide)) (by rfl) T.g_read_lists T.F_read_lists.kp (b_read_lists T) .nil (passes_call takes0 (fun _ _ _ _ h => h)) (pa_cons (pv 7) pa_nil))) (pss_cons (ps_if (PW.pt (pw_or (pt_not (pt_val (pe_callB c_isi (by rfl) T.z_isinstance bt_isinstance (pa_cons (pv 11) (pa_cons (pe_bltn (v := .ty "list") (by rfl) T.z_list bt_list rfl) pa_nil))))) (pw_or (pt_not (pt_val (pe_callB (c_all rfl) (by rfl) T.z_all bt_all (pa_cons (pe_lc (own := [("row", 4)]) (g := (gName 4)) (tt := tYes) rfl sc_law_right.nd (pi_list (pv 11)) (blkOk_by (own := [("row", 4)]) (N := ["urn", "rows", "many", "place", "row", "k", "hue", "due", "passed", "turn", "found", "again"]) (sc := defScope s_law_right) (by decide +kernel)) (fun _ _ _ _ _ => (pg_name (i := 4) sc_law_right.nd rfl (Or.inl rfl))) (fun _ _ _ _ _ => pts_nil) (fun _ _ _ _ _ => (pe_call (ok_law_wholes T) (hr.mono (by decide)) (by rfl) T.g_law_wholes T.F_law_wholes.kp (b_law_wholes T) .nil pass0 (pa_cons (pv 4) pa_nil)))) pa_nil)))) (pw_or1 (pt_cmpR (op_neD hr.units) (pv 11) (pv 1) (nomark _)))))) (pss_one (ps_ret pe_bl)) pss_nil) (pss_cons (ps_if (pt_cmpR (op_neD hr.units) (pe_call (ok_show_lists T) (hr.mono (by decide)) (by rfl) T.g_show_lists T.F_show_lists.kp (b_show_lists T) .nil pass0 (pa_cons (pv 11) pa_nil)) (pv 7) (nomark _)) (pss_one (ps_ret pe_bl)) pss_nil) (pss_cons (ps_for PassesOwn.never rfl (pi_list (pv 11)) (pg_name (i := 4) sc_law_right.nd rfl (Or.inl rfl)) (pss_one (ps_expr (pe_bm PySem.F.plainAttrs_list PySem.F.slot_list_append PySem.F.type_list_append mt_append (pv 4) (pa_cons (pv 9) pa_nil))))) (pss_cons (ps_if (pt_cmpR (op_neD hr.units) (pv 11) (pe_lc (own := [("row", 4)]) (g := (gName 4)) (tt := tYes) rfl sc_law_right.nd (pi_list (pv 1)) (blkOk_by (own := [("row", 4)]) (N := ["urn", "rows", "many", "place", "row", "k", "hue", "due", "passed", "turn", "found", "again"]) (sc := defScope s_law_right) (by decide +kernel)) (fun _ _ _ _ _ => (pg_name (i := 4) sc_law_right.nd rfl (Or.inl rfl))) (fun _ _ _ _ _ => pts_nil) (fun _ _ _ _ _ => (pe_op op_plus (pv 4) (pe_lst (pa_cons (pv 9) pa_nil))))) (nomark _)) (pss_one (ps_ret pe_bl)) pss_nil) (pss_one (ps_expr (pe_bm PySem.F.plainAttrs_list PySem.F.slot_list_append PySem.F.type_list_append mt_append (pv 11) (pa_cons (pe_lst (pa_cons (pv 9) pa_nil)) pa_nil)))))))))))) (pss_one (ps_ret pe_bl))))))))
theorem ok_law (T : Txt K mg a) : FnOk P w K mg base CX0 7 T.f_law T.fd_law ["script"] (sp_law K a) := by
  refine T.F_law.ok sc_law (fun vs H Q E h => SpG.len vs H Q E h) (fun cdv A outer s H vs Q E hr h => ⟨t_law K a, PSs.nox ?_, pure_law h⟩)
  show PSs _ _ (t_law_1 K a)
  exact (pss_cons (ps_for PassesOwn.never rfl (pi_range1 (by rfl) T.z_range (pa_cons (pe_callB (c_max rfl) (by rfl) T.z_max bt_max (pa_cons pe_int (pa_cons (pe_callB (c_min rfl) (by rfl) T.z_min bt_min (pa_cons pe_int (pa_cons (pe_callB c_len (by rfl) T.z_len bt_len (pa_cons (pv 0) pa_nil)) pa_nil))) pa_nil))) pa_nil)) (pg_name (i := 1) sc_law.nd rfl (Or.inl rfl)) (pss_one (ps_if (pt_not (pt_val (pe_call (ok_law_right T) (hr.mono (by decide)) (by rfl) T.g_law_right T.F_law_right.kp (b_law_right T) .nil pass0 (pa_cons (pe_call (ok_law_urn T) (hr.mono (by decide)) (by rfl) T.g_law_urn T.F_law_urn.kp (b_law_urn T) .nil pass0 (pa_cons (pv 0) (pa_cons (pv 1) pa_nil))) pa_nil)))) (pss_one (ps_ret pe_bl)) pss_nil))) (pss_one (ps_ret pe_bl)))
end
end G

namespace G
open PySem PySem.Spec PyProof.Rows L2
theorem law_ask {K : PySem.W.Frag} {a : Ad} {H : Hp} {x : Addr} {ns : List Int} {Q : VK} {E : XK} (hl : ns.length ≤ 63) (hS : SqL K H x (ns.map V.int)) (hq : ∀ H', Q (.bl true) H') : sp_law K a [.ref x] H Q E := by
  refine ⟨[per (scrP K ns)], fun g _ => g = dat (.bool true), fun _ _ => False, fun _ => 0, rfl, ⟨ns, rfl, hl, rfl⟩, ⟨rfl, fun i g v h1 h2 => ?_⟩, fun v g Γp ω' H' e _ p _ => ?_, fun _ _ _ _ h => h.elim⟩
  · match i, h1, h2 with
    | 0, h1, h2 =>
      cases h1
      cases h2
      exact ⟨x, rfl, Same.seq (fun b o e => vw_mk rfl e) hS⟩
    | i + 1, h1, _ => simp at h1
  · subst e
    cases DR.bl_inv p
    exact hq H'
def adOf (K : PySem.W.Frag) : Ad := ⟨He.ga K "Web", He.ga K "HueError", He.ga K "InvalidWeb", He.ga K "InvalidLists", He.ga K "InvalidPlace"⟩
theorem txt {K : PySem.W.Frag} {h : Heap} {mg : Str → Option Value} (X : K.In h) (G : h.Ns mainGlobals mg) (c : SaysP xf fa fn pr K) : ∃ T : Txt K mg (adOf K), T.f_law = He.ga K "law" := by
  obtain ⟨fd_is_count, F_is_count⟩ := c.d.def_ 0 (d := d_is_count) rfl
  obtain ⟨fd_are_counts, F_are_counts⟩ := c.d.def_ 1 (d := d_are_counts) rfl
  obtain ⟨fd_are_ascending_counts, F_are_ascending_counts⟩ := c.d.def_ 2 (d := d_are_ascending_counts) rfl
  obtain ⟨fd_is_integer_word, F_is_integer_word⟩ := c.d.def_ 3 (d := d_is_integer_word) rfl
  obtain ⟨fd_integers_of, F_integers_of⟩ := c.d.def_ 4 (d := d_integers_of) rfl
  obtain ⟨fd_hues_of_word, F_hues_of_word⟩ := c.d.def_ 5 (d := d_hues_of_word) rfl
  obtain ⟨fd_word_of_hues, F_word_of_hues⟩ := c.d.def_ 6 (d := d_word_of_hues) rfl
  obtain ⟨fd_show_lists, F_show_lists⟩ := c.d.def_ 7 (d := d_show_lists) rfl
  obtain ⟨fd_read_lists, F_read_lists⟩ := c.d.def_ 8 (d := d_read_lists) rfl
  obtain ⟨fd_law_urn, F_law_urn⟩ := c.d.def_ 9 (d := d_law_urn) rfl
  obtain ⟨fd_law_pick, F_law_pick⟩ := c.d.def_ 10 (d := d_law_pick) rfl
  obtain ⟨fd_law_whole, F_law_whole⟩ := c.d.def_ 11 (d := d_law_whole) rfl
  obtain ⟨fd_law_wholes, F_law_wholes⟩ := c.d.def_ 12 (d := d_law_wholes) rfl
  obtain ⟨fd_law_copies, F_law_copies⟩ := c.d.def_ 13 (d := d_law_copies) rfl
  obtain ⟨fd_law_hue, F_law_hue⟩ := c.d.def_ 14 (d := d_law_hue) rfl
  obtain ⟨fd_law_written, F_law_written⟩ := c.d.def_ 15 (d := d_law_written) rfl
  obtain ⟨fd_law_right, F_law_right⟩ := c.d.def_ 16 (d := d_law_right) rfl
  obtain ⟨fd_law, F_law⟩ := c.d.def_ 17 (d := d_law) rfl
  exact ⟨{
    g_InvalidText := He.glo_ok X G (c.d.fact 18 (f := .glo "InvalidText") rfl),
    xF_InvalidText := (He.exc_ok (c.d.fact 19 (f := .exc "InvalidText") rfl)).1,
    kF_InvalidText := (He.exc_ok (c.d.fact 19 (f := .exc "InvalidText") rfl)).2.1,
    bF_InvalidText := (He.exc_ok (c.d.fact 19 (f := .exc "InvalidText") rfl)).2.2.1,
    tF_InvalidText := (He.exc_ok (c.d.fact 19 (f := .exc "InvalidText") rfl)).2.2.2,
    f_is_count := He.ga K "is_count",
    fd_is_count := fd_is_count,
    F_is_count := F_is_count,
    g_is_count := He.glo_ok X G (c.d.fact 0 (f := .glo "is_count") rfl),
    f_are_counts := He.ga K "are_counts",
    fd_are_counts := fd_are_counts,
    F_are_counts := F_are_counts,
    g_are_counts := He.glo_ok X G (c.d.fact 1 (f := .glo "are_counts") rfl),
    f_are_ascending_counts := He.ga K "are_ascending_counts",
    fd_are_ascending_counts := fd_are_ascending_counts,
    F_are_ascending_counts := F_are_ascending_counts,
    g_are_ascending_counts := He.glo_ok X G (c.d.fact 2 (f := .glo "are_ascending_counts") rfl),
    f_is_integer_word := He.ga K "is_integer_word",
    fd_is_integer_word := fd_is_integer_word,
    F_is_integer_word := F_is_integer_word,
    g_is_integer_word := He.glo_ok X G (c.d.fact 3 (f := .glo "is_integer_word") rfl),
    f_integers_of := He.ga K "integers_of",
    fd_integers_of := fd_integers_of,
    F_integers_of := F_integers_of,
    g_integers_of := He.glo_ok X G (c.d.fact 4 (f := .glo "integers_of") rfl),
    f_hues_of_word := He.ga K "hues_of_word",
    fd_hues_of_word := fd_hues_of_word,
    F_hues_of_word := F_hues_of_word,
    g_hues_of_word := He.glo_ok X G (c.d.fact 5 (f := .glo "hues_of_word") rfl),
    f_word_of_hues := He.ga K "word_of_hues",
    fd_word_of_hues := fd_word_of_hues,
    F_word_of_hues := F_word_of_hues,
    g_word_of_hues := He.glo_ok X G (c.d.fact 6 (f := .glo "word_of_hues") rfl),
    f_show_lists := He.ga K "show_lists",
    fd_show_lists := fd_show_lists,
    F_show_lists := F_show_lists,
    g_show_lists := He.glo_ok X G (c.d.fact 7 (f := .glo "show_lists") rfl),
    f_read_lists := He.ga K "read_lists",
    fd_read_lists := fd_read_lists,
    F_read_lists := F_read_lists,
    g_read_lists := He.glo_ok X G (c.d.fact 8 (f := .glo "read_lists") rfl),
    f_law_urn := He.ga K "_law_urn",
    fd_law_urn := fd_law_urn,
    F_law_urn := F_law_urn,
    g_law_urn := He.glo_ok X G (c.d.fact 9 (f := .glo "_law_urn") rfl),
    f_law_pick := He.ga K "_law_pick",
    fd_law_pick := fd_law_pick,
    F_law_pick := F_law_pick,
    g_law_pick := He.glo_ok X G (c.d.fact 10 (f := .glo "_law_pick") rfl),
    f_law_whole := He.ga K "_law_whole",
    fd_law_whole := fd_law_whole,
    F_law_whole := F_law_whole,
    g_law_whole := He.glo_ok X G (c.d.fact 11 (f := .glo "_law_whole") rfl),
    f_law_wholes := He.ga K "_law_wholes",
    fd_law_wholes := fd_law_wholes,
    F_law_wholes := F_law_wholes,
    g_law_wholes := He.glo_ok X G (c.d.fact 12 (f := .glo "_law_wholes") rfl),
    f_law_copies := He.ga K "_law_copies",
    fd_law_copies := fd_law_copies,
    F_law_copies := F_law_copies,
    g_law_copies := He.glo_ok X G (c.d.fact 13 (f := .glo "_law_copies") rfl),
    f_law_hue := He.ga K "_law_hue",
    fd_law_hue := fd_law_hue,
    F_law_hue := F_law_hue,
    g_law_hue := He.glo_ok X G (c.d.fact 14 (f := .glo "_law_hue") rfl),
    f_law_written := He.ga K "_law_written",
    fd_law_written := fd_law_written,
    F_law_written := F_law_written,
    g_law_written := He.glo_ok X G (c.d.fact 15 (f := .glo "_law_written") rfl),
    f_law_right := He.ga K "_law_right",
    fd_law_right := fd_law_right,
    F_law_right := F_law_right,
    g_law_right := He.glo_ok X G (c.d.fact 16 (f := .glo "_law_right") rfl),
    f_law := He.ga K "law",
    fd_law := fd_law,
    F_law := F_law,
    g_law := He.glo_ok X G (c.d.fact 17 (f := .glo "law") rfl),
    g_MOST_DIGITS := He.int_ok X G (c.d.fact 20 (f := .int "MOST_DIGITS" 30) rfl),
    z_all := He.free_ok X G (c.d.fact 21 (f := .free "all") rfl),
    z_bool := He.free_ok X G (c.d.fact 22 (f := .free "bool") rfl),
    z_int := He.free_ok X G (c.d.fact 23 (f := .free "int") rfl),
    z_isinstance := He.free_ok X G (c.d.fact 24 (f := .free "isinstance") rfl),
    z_len := He.free_ok X G (c.d.fact 25 (f := .free "len") rfl),
    z_list := He.free_ok X G (c.d.fact 26 (f := .free "list") rfl),
    z_max := He.free_ok X G (c.d.fact 27 (f := .free "max") rfl),
    z_min := He.free_ok X G (c.d.fact 28 (f := .free "min") rfl),
    z_range := He.free_ok X G (c.d.fact 29 (f := .free "range") rfl),
    z_sorted := He.free_ok X G (c.d.fact 30 (f := .free "sorted") rfl),
    z_str := He.free_ok X G (c.d.fact 31 (f := .free "str") rfl),
    z_zip := He.free_ok X G (c.d.fact 32 (f := .free "zip") rfl) }, rfl⟩
end G
open PySem PySem.W PySem.Calls PyProof.Rows
theorem PySem.Challenge.cw_ownhues_k74_lists_written_and_read_holds : PySem.Challenge.rw_ownhues_k74_lists_written_and_read.Holds := by
  w_on; o_law
  refine HandSHeadRun.head_any (r := OpenLaw.row PySem.Challenge.rw_ownhues_k74_lists_written_and_read) (q := view (OpenLaw.row PySem.Challenge.rw_ownhues_k74_lists_written_and_read).prog [25]) (H := G.hk) (ob := G.ob) (M := 9000) (loose := G.loose) (d := HandSHeadRun.topDef (OpenLaw.row PySem.Challenge.rw_ownhues_k74_lists_written_and_read).prog 25) (kwd := []) G.ob_eq
    (by kernel_rfl) (fun s => by kernel_rfl) G.run (by kernel_rfl) (by kernel_rfl) (by kernel_rfl) (by rfl) (by first | assumption | decide +kernel) (by decide +kernel) ⟨rfl, rfl, rfl, rfl, rfl, by decide +kernel⟩ ?hw ?hc
  case hw => w_witness2
  case hc =>
    refine L2.walk_ofE (l := PySem.Challenge.rw_ownhues_k74_lists_written_and_read) (n := 63) (k := 7) (x := "script") (CX := L2.CX0) rfl (by decide) (by kernel_rfl) ⟨rfl, by decide, by decide⟩ ?F (fun _ _ _ _ z => z)
    intro w mg fa h Y N hmg0
    obtain ⟨K, KX, c⟩ := Y
    have hmg : mg ("law" : PySem.Str) = some (.ref fa) := by
      have e : (HandSHeadRun.topDef (OpenLaw.row PySem.Challenge.rw_ownhues_k74_lists_written_and_read).prog 25).name = ("law" : PySem.Str) := by kernel_rfl
      rw [← e]
      exact hmg0
    obtain ⟨T, hT⟩ := G.txt KX N c
    have e := hmg.symm.trans T.g_law
    injection e with e
    injection e with e
    subst e
    exact ⟨K, T.fd_law, G.sp_law K (G.adOf K), KX, fun s v => L2.FunD.bindsA (ps := ["script"]) T.F_law (fun _ _ _ _ _ _ us hl => match us, hl with | [_], _ => rfl) s [v] rfl, fun H x ns hl _ hS => G.law_ask hl hS (fun _ => rfl), fun base _ _ => G.ok_law T⟩

