import PyProof.Rows.All
import Wide.All
import OpenK.AllK
import Wide.FinOn
import HandS.ForMost
import HandS.AnyAll
import HandS.IsInst
import HandS.Style
import HandS.Defaults
import HandS.Head0
import HandS.Head1
import HandS.Head2
import HandS.HeadEnd
import HandS.HeadHook1
import HandS.HeadHook2
import HandS.HeadHook3
import HandS.HeadHook4
import HandS.HeadWalk
import HandS.GenList
import HandS.GenOver
import HandS.Iter
import HandS.Exc
import HandS.ExcIs
import HandS.ExcOwn
import HandS.ExcValue
import HandS.SetFor
import HandS.Zip
import HandS.Walk
import KE.GoesMore
import KE.GoesEnum
import HandS.TupAny
import HandS.Text
import HandS.Deep
import HandS.Codes
import HandS.SortInts
import HandS.Strs
import HandS.DictComp
import PyProof.ReprRoads
import HandS.RaiseMore
import HandS.EndBits
import HandS.EndTab
import PySem.Challenge.RW_mastershow_k03_what_are_lines
set_option Elab.async false
set_option linter.all false
set_option maxRecDepth 100000
set_option maxHeartbeats 2000000
/-! all(test of sign for sign in text), the test over the module's own names -/
namespace Gx
open PySem PySem.Spec PyProof.Rows L2 GxR

/-- the element, in any frame of the generator, over the module as it stands -/
def EltG (X : Cx) (scope : Scope) (x : Str) (elt : Expr) (pb : Nat → Bool) : Prop :=
  ∀ (ge : Env) (B : Around) (F : Value → Shared → Prop) (c : Nat) (tk : Tok) (z : Shared) (m : Str → Option Value),
    ge.scope = scope → ge.globals = X.env.globals → z.heap.Ns ge.locals m → m x = some (.str ⟨#[c]⟩ tk) →
    (∀ b o, X.base.get? b = some o → z.heap.get? b = some o) → z.heap.Ns ge.globals X.mg →
    wpAny (model X.prog X.w) B (eval elt ge) (fun y z' => y = .bool (pb c) ∧ Keeps z z') F z

/-- x in G, G a text of the module's -/
theorem elt_inG {X : Cx} {scope : Scope} {x g : Str} {zs : Str} {tz : Tok} {p1 p2 p3 : Pos} (hk : scope.kind = .function) (hl : scope.names.lookup x = some .local)
    (hg : scope.names.lookup g = some .globalImplicit) (hm : X.mg g = some (.str zs tz)) (hd : (x == ("__debug__" : Str)) = false := by decide) (hd2 : (g == ("__debug__" : Str)) = false := by decide) :
    EltG X scope x (.Compare (.Name x p1) [.In] [.Name g p2] p3) (fun c => decide (c ∈ zs.cps.toList)) := by
  intro ge B F c tk z m hs hgl hn hx hb hN
  have kd : ge.scope.kind = .function := by rw [hs]; exact hk
  have kx : ge.scope.names.lookup x = some .local := by rw [hs]; exact hl
  have kg : ge.kindOf g = some .globalImplicit := (show ge.scope.names.lookup g = some .globalImplicit by rw [hs]; exact hg)
  refine wpAny_Compare1 ?_
  refine wpAny_Name (wpAny_loadName_local kd kx hn hx ?_) hd
  refine Calls.Name_function_global kd kg (Calls.loadGlobal_global hN hm ?_) hd2
  refine PyProof.Rows.in_str ?_
  exact ⟨congrArg Value.bool (PySem.StrLaws.found_one zs c), keeps_tok z z.toks⟩

/-- a or b -/
theorem elt_or {X : Cx} {scope : Scope} {x : Str} {a b : Expr} {pa pb : Nat → Bool} {p : Pos} (ha : EltG X scope x a pa) (hb : EltG X scope x b pb) :
    EltG X scope x (.BoolOp .Or [a, b] p) (fun c => pa c || pb c) := by
  intro ge B F c tk z m hs hgl hn hx hbs hN
  refine BoolOp_or (wpAny_mono (ha ge B F c tk z m hs hgl hn hx hbs hN) (fun v z1 hv => ?_) fun _ _ e => e)
  obtain ⟨rfl, h', t', rfl, kp⟩ := hv
  refine wpAny_truthy_bool ?_
  cases hp : pa c with
  | true =>
    refine ⟨?_, h', t', rfl, kp⟩
    show Value.bool true = Value.bool (pa c || pb c)
    rw [hp] <;> rfl
  | false =>
    refine BoolOp_one (wpAny_mono (hb ge B F c tk { z with heap := h', toks := t' } m hs hgl (hn.keeps kp) hx (fun q o e => kp q o (hbs q o e)) (hN.keeps kp)) (fun v z1 hv => ?_) fun _ _ e => e)
    obtain ⟨rfl, h2, t2, rfl, kp2⟩ := hv
    refine ⟨?_, h2, t2, rfl, fun q o e => kp2 q o (kp q o e)⟩
    show Value.bool (pb c) = Value.bool (pa c || pb c)
    rw [hp] <;> rfl

section
variable {X : Cx} {pins : List (Addr × Obj)} {σ : L2.St} {H : Hp} {s : Shared}
theorem gen_G {c P : Addr} {elt iter : Expr} {x : Str} {px gpos : Pos} {scope : Scope} {pb : Nat → Bool} {te : TE} {k : Nat} {W : Value → Shared → Prop} {R : Str → Hp → Prop}
    (room : Room k X.A) (tb : TabB X.base X.mg c P) (code : X.env.code = .ref c) (gs : GenS X.env scope x) (it : PE X iter te) (el : EltG X scope x elt pb)
    (fold : ∀ v, genFold iter X.env v = pure v) (I : Inv X pins σ H s) (h : te σ H fun v H1 => ∃ a : Str, v = .str a ∧ TabG H1 P ∧ R a H1)
    (fin : ∀ a H1 g s5, R a H1 → Ready X pins σ H1 P a pb g s5 → W (.ref g) s5) :
    wpAny (model X.prog X.w) X.A (eval (.GeneratorExp elt [⟨.Name x px, iter, [], 0⟩] scope gpos) X.env) W X.xe s := by
  refine wpAny_GeneratorExp_walksQ room.hd gs.co (closure_ok gs.free) gs.cell gs.dot gs.loc gs.kind (Nat.lt_of_le_of_lt (Nat.le_add_right X.A.depth (3 * k + 5)) (by have := room.dp; omega)) ?_ fold
  refine thn (it.run pins s σ H _ I h) ?_
  rintro xv s1 ⟨v, H1, J, rv, a, rfl, ⟨ps, tP, trip⟩, r⟩
  obtain ⟨t, rfl⟩ := _root_.id rv
  refine wpAny_pyIter_str fun o St walks st0 => ?_
  have atP := J.hok P _ tP
  have atP : s1.heap.get? P = some { cls := .none, data := .fields ps } := atP
  have ltP := Heap.lt_size atP
  have atP' : (s1.heap.push o).get? P = some { cls := .none, data := .fields ps } := Heap.get?_push_of_some _ atP
  have head := tb.code.keeps (h' := s1.heap.push o) fun b u e => Heap.get?_push_of_some _ (J.bk b u e)
  have lim := J.nolimit.push o
  have baseP : ∀ b u, X.base.get? b = some u → b ≠ P := fun b u e q => by
    have n := (J.bs b u e).2
    rw [q, tP] at n
    cases n
  have after : ∀ (cd : Value) (h3 : Heap) (tk : Nat) (ps' : Array Value), Heap.ExtBut P (s1.heap.push o) h3 → (s1.heap.push o).objs.size ≤ h3.objs.size → h3.get? P = some { cls := .none, data := .fields ps' } → (∃ more, ps' = ps ++ more) → TriplesOk ps'.toList →
      wpAny (model X.prog X.w) X.A (builtinsFor X.env.globals X.env.builtins) (fun bi s₄ =>
        ∃ Ia fp wr n₀ Pf St₀ pz F, Value.ref s1.heap.objs.size = .ref Ia ∧ (∀ A' : Around, A'.handled = none → Walks X.prog X.w A' Ia fp wr n₀ Pf St₀) ∧ St₀ 0 s₄.heap ∧ (∀ b ∈ fp, b < s₄.heap.objs.size) ∧ s₄.heap.NoLimit ∧ cStatics ∉ wr ∧
          (∀ href : Heap, (∀ b o, s₄.heap.get? b = some o → href.get? b = some o) →
            QuietGen X.prog X.w (genEnv scope (cloFrom X.env.cells scope.names []) s₄.heap.objs.size cd bi X.env) x [] elt (List.range s₄.heap.objs.size) wr Pf pz F href) ∧
          (∀ a h₅ tk gs, gs.bare = true → s₄.heap.objs.size < a → h₅.objs.size = a + 1 → (∀ b o, s₄.heap.get? b = some o → h₅.get? b = some o) →
            WalksS X.prog X.w X.A.in4 a (a :: s₄.heap.objs.size :: List.range s₄.heap.objs.size) (s₄.heap.objs.size :: wr) (GenOnlyQ s₄.gens.size) (passing pz n₀ 0).length
              (fun j y => ∃ i, (passing pz n₀ 0)[j]? = some i ∧ F i y) (GenAt X.prog X.w X.A.in4 a s₄.gens.size s₄.heap.objs.size (List.range s₄.heap.objs.size) wr pz n₀ F) →
            GenAt X.prog X.w X.A.in4 a s₄.gens.size s₄.heap.objs.size (List.range s₄.heap.objs.size) wr pz n₀ F 0 { s₄ with gens := s₄.gens.push gs, toks := tk, heap := h₅ } →
            W (.ref a) { s₄ with gens := s₄.gens.push gs, toks := tk, heap := h₅ })) X.xe { s1 with heap := h3, toks := tk } := by
    intro cd h3 tk ps' ext size atP3 grown trip3
    obtain ⟨bm, ob, e1, e2, e3, e4, e5, e6, e7, e8⟩ := tb.bm
    have statP : cStatics ≠ P := fun e => by
      obtain ⟨_, hns, _⟩ := J.nolimit
      obtain ⟨o', es, ep, ho, hd, _⟩ := hns
      rw [e, atP] at ho
      cases ho
      cases hd
    have statLt : cStatics < s1.heap.objs.size := let ⟨_, hns, _⟩ := J.nolimit; hns.lt
    have sz2 : (s1.heap.push o).objs.size = s1.heap.objs.size + 1 := Heap.size_push ..
    have kept : ∀ b u, b ≠ P → s1.heap.get? b = some u → h3.get? b = some u := fun b u hb e => ext b u hb (Heap.get?_push_of_some _ e)
    have glob3 : h3.Ns X.env.globals X.mg := by
      rw [J.ok.glob]
      exact ((J.mod.glob.keeps J.bk).push o).extBut ext tb.gP
    refine wpAny_builtinsFor (m := X.mg) glob3 e1 e2 (kept _ _ e4 (J.bk _ _ e5)) e6 e7 e8 ?_
    refine ⟨s1.heap.objs.size, [s1.heap.objs.size], [s1.heap.objs.size], a.cps.size, SignAt a, St, (fun _ => true), (fun i y => ∃ cc, a.cps[i]? = some cc ∧ y = .bool (pb cc)), rfl, walks, ?_, ?_, lim.extBut ext statP, ?_, ?_, ?_⟩
    · refine (walks X.A room.hd).frame _ _ _ st0 fun b hb u e => ext b u (fun z => ?_) e
      have q := List.mem_singleton.mp hb
      exact Nat.ne_of_lt ltP (z.symm.trans q)
    · intro b hb
      rw [List.mem_singleton.mp hb]
      show s1.heap.objs.size < h3.objs.size
      omega
    · intro z
      exact Nat.ne_of_lt statLt (List.mem_singleton.mp z)
    · intro href hhref
      have seen : ∀ s₂ : Shared, (∀ b ∈ List.range h3.objs.size, b ∉ [s1.heap.objs.size] → ∀ o, href.get? b = some o → s₂.heap.get? b = some o) → ∀ b u, b ≠ P → s1.heap.get? b = some u → s₂.heap.get? b = some u := fun s₂ hk b u hb e => by
        have l1 := Heap.lt_size e
        refine hk b (List.mem_range.mpr (Nat.lt_of_lt_of_le l1 (by omega))) (fun q => Nat.ne_of_lt l1 (List.mem_singleton.mp q)) u (hhref b u (kept b u hb e))
      refine ⟨fun A' E' i v s₂ m₂ hA hPv hn hm hk => ?_, fun A' E' i v s₂ m₂ hA hPv hp hn hm hk => ?_⟩
      · simp only [List.forIn_nil]
        exact wpAny_pure ⟨rfl, keeps_refl _⟩
      · obtain ⟨cc, u, hcc, rfl⟩ := hPv
        have gl2 : s₂.heap.Ns X.env.globals X.mg := by
          obtain ⟨og, es, ep, eg, dg, rg⟩ := J.mod.glob
          rw [J.ok.glob]
          exact ⟨og, es, ep, seen s₂ hk _ _ tb.gP (J.bk _ _ eg), dg, rg⟩
        exact wpAny_mono (el _ A' E' cc u s₂ m₂ rfl rfl hn hm (fun b o e => seen s₂ hk b o (baseP b o e) (J.bk b o e)) gl2) (fun y s3 r => ⟨⟨cc, hcc, r.1⟩, r.2⟩) fun _ _ e => e
    · intro g h5 tk5 gst hgb hag hsz5 hk5 W5 hat
      have ep : passing (fun _ : Nat => true) a.cps.size 0 = List.range a.cps.size := GxR.passing_true a.cps.size
      simp only [ep, List.length_range] at W5
      refine fin a H1 g _ r ⟨_, _, _, _, _, W5.in4_1, hat, ?_, fun s' hm => ?_⟩
      · intro j y sj Qj Ej hy hQj
        obtain ⟨i, hij, cc, hcc, rfl⟩ := hy
        obtain ⟨hj, ej⟩ := List.getElem?_eq_some_iff.mp hij
        rw [List.getElem_range] at ej
        subst ej
        have e9 : a.cps.toList[j]? = some cc := by rw [Array.getElem?_toList]; exact hcc
        have hQ2 : Qj (trF pb a.cps.toList j) sj := hQj
        rw [trF_some e9] at hQ2
        exact wpAny_truthy_bool hQ2
      · obtain ⟨more, em⟩ := grown
        have nwr : ∀ b u, s1.heap.get? b = some u → b ∉ h3.objs.size :: [s1.heap.objs.size] := fun b u e hb => by
          have hl := Heap.lt_size e
          rcases List.mem_cons.mp hb with z | z
          · have h9 : (h3.objs.size : Nat) < s1.heap.objs.size := by rw [z] at hl; exact hl
            omega
          · exact Nat.ne_of_lt hl (List.mem_singleton.mp z)
        have after := inv_tab (more := more) (h' := s'.heap) (g' := s'.gens) (d' := s'.drawn) (t' := s'.toks) J tP (fun b u hb e => hm.heap b u (nwr b u e) (hk5 b u (kept b u hb e)))
          (by rw [← em]; exact hm.heap P _ (nwr P _ atP) (hk5 P _ atP3)) (AllBare.movedS (J.bare.push hgb) hm)
        rw [sh_eta s1 s' hm.os] at after
        exact ⟨upd H1 P (.tbl (ps ++ more)), ⟨⟨ps ++ more, upd_same, by rw [← em]; exact trip3⟩, fun b hb => upd_ne hb⟩, after⟩
  refine ⟨lim, ?_⟩
  cases hf : codeAmong gpos ps.toList with
  | none =>
    refine wpAny_genexprCodeX code (head.code atP' trip) (head.tab atP') hf fun c' h' tk hx hge hlt hco' _ htab' _ => ?_
    obtain ⟨o1, vs, f1, tf, fl, tg, inF, tx, tt, op, _, _, _, _, _, _, _, _, _, htr, _⟩ := hco'
    exact after _ h' tk _ hx (Nat.le_trans hge (Nat.le_of_lt hlt)) htab'.2 ⟨_, rfl⟩ htr
  | some cv =>
    refine wpAny_genexprCode_hit code (head.code atP' trip) hf ?_
    exact after cv (s1.heap.push o) s1.toks ps (Heap.ExtBut.refl _ _) (Nat.le_refl _) atP' ⟨#[], by simp⟩ trip
theorem pe_allG {c P : Addr} {elt iter : Expr} {x : Str} {px p pos gpos : Pos} {scope : Scope} {pb : Nat → Bool} {te : TE} {k : Nat}
    (room : Room k X.A) (hg : Gl X "all") (hm : X.mg "all" = none) (tb : TabB X.base X.mg c P) (code : X.env.code = .ref c) (gs : GenS X.env scope x) (it : PE X iter te) (el : EltG X scope x elt pb)
    (fold : ∀ v, genFold iter X.env v = pure v := by intro _; rfl)
    (he : starEach [.GeneratorExp elt [⟨.Name x px, iter, [], 0⟩] scope gpos] X.env = (false, eval (.GeneratorExp elt [⟨.Name x px, iter, [], 0⟩] scope gpos) X.env) :: starEach [] X.env := by rfl) :
    PE X (.Call (.Name "all" p) [.GeneratorExp elt [⟨.Name x px, iter, [], 0⟩] scope gpos] [] pos) (tAllS P pb te) := by
  refine ⟨fun pins s σ H Q I h => ?_⟩
  refine wpAny_Call_Name_kw (ld_blt (u := .builtin "all") I hg hm (by decide +kernel) ?_)
  refine PyProof.Rows.callWith_builtin1 ?_ he (by rfl)
  rw [he]
  show wpAny _ _ (spliced ((false, eval (.GeneratorExp elt [⟨.Name x px, iter, [], 0⟩] scope gpos) X.env) :: backTo pos (starEach [] X.env))) _ _ s
  refine Calls.spliced_cons (gen_G (R := fun a H1 => ∀ H2, Tabbed P H1 H2 → Q (.bl (a.cps.toList.all pb)) H2) room tb code gs it el fold I h fun a H1 g s5 hR hG => ?_)
  obtain ⟨fp, wr, G, F, St, W, hst, htr, hI⟩ := hG
  refine Calls.spliced_nil ?_
  refine call_all_walkS (W.self 0 _ _ _ hst ⟨g, fp, wr, G, _, F, St, _, rfl, W, hst, htr, fun s' hmv => ?_⟩)
  obtain ⟨H2, hT, J⟩ := hI s' hmv
  refine ⟨.bl _, H2, J, rfl, ?_⟩
  rw [all_signs a pb]
  exact hR H2 hT
end
end Gx

set_option Elab.async false
set_option linter.all false
set_option maxRecDepth 100000
set_option maxHeartbeats 2000000
/-! What all these proofs share: a def by its name, kinds of things, the pen that draws. -/
namespace Gx
open PySem PySem.Spec PyProof.Rows L2 GxR
/-! ### a def of the module, by its name -/
structure Dn (P : Program) (w : World) (K : PySem.W.Frag) (mg : Str → Option Value) (base : Heap) (k : Nat) (x : Str) (ps : List Str) (sp : Sp) : Prop where
  ex : ∃ (f : Addr) (fd : FuncData), mg x = some (.ref f) ∧ PySem.W.keepIn K (.ref f) = true ∧ Binds K fd ps [] ∧ FnOk P w K mg base CX0 k f fd ps sp
section
variable {X : Cx} {k : Nat} {x : Str} {ps : List Str} {sp : Sp} {p pos : Pos} {e : Expr} {es : List Expr} {t : TA}
theorem pe_dn (D : Dn X.prog X.w X.K X.mg X.base k x ps sp) (hr : Room k X.A) (hg : Gl X x) (ha : PA X (e :: es) t) (hdb : (x == ("__debug__" : Str)) = false := by decide)
    (he : starEach (e :: es) X.env = (false, eval e X.env) :: starEach es X.env := by rfl) (hpl : (backTo pos (starEach es X.env)).any (·.1) = false := by rfl) :
    PE X (.Call (.Name x p) (e :: es) [] pos) (tCall sp [] E0 t) := by
  obtain ⟨f, fd, hm, hk, hb, F⟩ := D.ex
  exact pe_call F hr hg hm hk hb .nil pass0 ha hdb he hpl
theorem pe_dn0 (D : Dn X.prog X.w X.K X.mg X.base k x ps sp) (hr : Room k X.A) (hg : Gl X x) (hdb : (x == ("__debug__" : Str)) = false := by decide) :
    PE X (.Call (.Name x p) [] [] pos) (tCall sp [] E0 tNil) := by
  obtain ⟨f, fd, hm, hk, hb, F⟩ := D.ex
  exact pe_call0 F hr hg hm hk hb .nil pass0 hdb
end
section
variable {P : Program} {w : World} {K : PySem.W.Frag} {mg : Str → Option Value} {base : Heap}
/-- a def whose code object is told -/
theorem okC {x qual : Str} {params : Arguments} {body : List Stmt} {scope : Scope} {dvs : List V} {kws : List (Str × V)} {d : He.Defn} {fd : FuncData} {CX : CXT} {N ps : List Str} {k : Nat} {sp : Sp}
    (F : FunD K x qual params body scope dvs kws (He.fAd K d) fd) (S : FnScope N ps scope) (len : ∀ vs H Q E, sp vs H Q E → vs.length = ps.length)
    (hbody : ∀ (c : Value) (A : Around) (outer : List Env) (s : Shared) (H : Hp) (vs : List V) (Q : VK) (E : XK), c = .ref (He.codeOf K d) → Room k (A.deeper (envOfC qual scope s.heap.objs.size (He.fAd K d) c)) → sp vs H Q E →
      ∃ t, PSs (cxOf CX P w K mg base N qual scope (He.fAd K d) c A outer s H E) body t ∧ t { nx := fun _ H' => Q .non H', rt := Q } (start N vs) H) : FnOk P w K mg base CX (k + 1) (He.fAd K d) fd ps sp := by
  obtain ⟨oc, od, dV, kV, doc, pm, an, cdv, ct, osl, rfl, lk, hcd, _, _⟩ := F.ex
  obtain ⟨c, rfl⟩ := He.codeIn_ref hcd
  exact fn_of lk hcd S len fun A outer s H vs Q E hr hsp => hbody _ A outer s H vs Q E (congrArg Value.ref (He.codeOf_eq lk rfl).symm) hr hsp
end
theorem iteNb {b : Bool} {A B : Prop} (h1 : b = false → A) (h2 : b = true → B) : if (!b) = true then A else B := by
  cases b with
  | false => exact h1 rfl
  | true => exact iteF (h2 rfl)
theorem iteB {b : Bool} {A B : Prop} (h1 : b = true → A) (h2 : b = false → B) : if b = true then A else B := by
  cases b with
  | true => exact h1 rfl
  | false => exact iteF (h2 rfl)
theorem at_any {α : Type} {xs : List α} {z : Int} {j : Nat} {v : α} (e : z = (j : Int)) (h : xs[j]? = some v) : atI xs z = some v := by
  rw [e]
  exact atI_nat h
/-- two ways that meet again with some number -/
theorem viaInt {A : Prop} {R : Int → Prop} (h : (∀ c, R c) → A) (r : ∀ c, R c) : A := h r
section
variable {P : Program} {w : World} {K : PySem.W.Frag} {mg : Str → Option Value} {base : Heap} {x qual : Str} {params : Arguments} {body : List Stmt} {scope : Scope} {dvs : List V} {kws : List (Str × V)} {N ps : List Str} {k : Nat} {sp : Sp}
/-- a def that raises nothing -/
theorem okN {f : Addr} {fd : FuncData} {CX : CXT} (F : FunD K x qual params body scope dvs kws f fd) (S : FnScope N ps scope) (len : ∀ vs H Q E, sp vs H Q E → vs.length = ps.length)
    (hbody : ∀ (c : Value) (A : Around) (outer : List Env) (s : Shared) (H : Hp) (vs : List V) (Q : VK) (E : XK), Room k (A.deeper (envOfC qual scope s.heap.objs.size f c)) → sp vs H Q E →
      ∃ t, PSs (cxOf CX P w K mg base N qual scope f c A outer s H E).nox body t ∧ t { nx := fun _ H' => Q .non H', rt := Q } (start N vs) H) : FnOk P w K mg base CX (k + 1) f fd ps sp :=
  F.ok S len fun c A outer s H vs Q E hr h => let ⟨t, ht, q⟩ := hbody c A outer s H vs Q E hr h; ⟨t, ht.nox, q⟩
theorem okCN {d : He.Defn} {fd : FuncData} {CX : CXT} (F : FunD K x qual params body scope dvs kws (He.fAd K d) fd) (S : FnScope N ps scope) (len : ∀ vs H Q E, sp vs H Q E → vs.length = ps.length)
    (hbody : ∀ (c : Value) (A : Around) (outer : List Env) (s : Shared) (H : Hp) (vs : List V) (Q : VK) (E : XK), c = .ref (He.codeOf K d) → Room k (A.deeper (envOfC qual scope s.heap.objs.size (He.fAd K d) c)) → sp vs H Q E →
      ∃ t, PSs (cxOf CX P w K mg base N qual scope (He.fAd K d) c A outer s H E).nox body t ∧ t { nx := fun _ H' => Q .non H', rt := Q } (start N vs) H) : FnOk P w K mg base CX (k + 1) (He.fAd K d) fd ps sp :=
  okC F S len fun c A outer s H vs Q E hc hr h => let ⟨t, ht, q⟩ := hbody c A outer s H vs Q E hc hr h; ⟨t, ht.nox, q⟩
end
/-- a generator's scope that takes nothing from the def around it -/
theorem gs_plain {env : Env} {scope : Scope} {x : Str} (h1 : scope.kind = .function) (h2 : scope.isCoroutine = false) (h3 : scope.names.lookup (".0" : Str) = some NameKind.local) (h4 : scope.names.lookup x = some .local)
    (h5 : (scope.names.all fun y => decide (y.2 ≠ .cell) && decide (y.2 ≠ .free)) = true) : GenS env scope x := by
  have h6 := List.all_eq_true.mp h5
  refine ⟨h1, h2, fun y hy => ?_, h3, h4, fun y hy e => ?_⟩
  · have h7 := h6 y hy
    rw [Bool.and_eq_true] at h7
    exact of_decide_eq_true h7.1
  · have h7 := h6 y hy
    rw [Bool.and_eq_true] at h7
    exact absurd e (of_decide_eq_true h7.2)
/-! ### text * number -/
theorem op_mul_str {X : Cx} : OpR X (binaryOp .Mult) (fun x y H Q => ∃ (z : Str) (n : Int), x = .str z ∧ y = .int n ∧ MulOk z n ∧ Q (.str (Txt.mul z n)) H) := by
  intro pins s σ H x y v u Q I rx ry h
  obtain ⟨z, n, rfl, rfl, ok, q⟩ := h
  obtain ⟨t, rfl⟩ := rx
  obtain ⟨t', rfl⟩ := ry
  exact SB.mul ok fun t2 k => ⟨.str _, H, I.tok k, ⟨_, rfl⟩, q⟩
theorem mulOk {z : Str} {n : Int} (h1 : z.length ≤ 1000) (h2 : 0 ≤ n) (h3 : n ≤ 1000) : MulOk z n := by
  refine ⟨?_, fun h4 _ => ?_, fun h4 _ => ?_⟩
  · have a1 : ¬ n < -(2 ^ 63 : Int) := by omega
    have a2 : ¬ n ≥ 2 ^ 63 := by omega
    rw [decide_eq_false a1, decide_eq_false a2] <;> rfl
  · have h6 : (z.length : Int) * n ≤ 1000 * 1000 := Int.mul_le_mul (by omega) h3 h2 (by decide)
    have h5 : (z.length : Int) ≤ (2 ^ 63 - 1) / n := Int.le_ediv_of_mul_le (by omega) (by omega)
    omega
  · have h6 : z.length * n.toNat ≤ 1000 * 1000 := Nat.mul_le_mul h1 (by omega)
    show decide (z.length * n.toNat > sizeLine) = false
    exact decide_eq_false (by rw [sizeLine_eq]; omega)
/-! ### kinds of things -/
/-- a thing that the laws hand in: its type is known -/
inductive Th (H : Hp) : V → Prop where
  | non : Th H .non
  | bl (b : Bool) : Th H (.bl b)
  | int (i : Int) : Th H (.int i)
  | str (z : Str) : Th H (.str z)
  | lst {a : Addr} {xs : List V} (e : H a = some (.lst xs)) : Th H (.ref a)
  | tup {a : Addr} {xs : List V} (e : H a = some (.tup xs)) : Th H (.ref a)
  | dK {a : Addr} {kvs : List (Key × V)} (e : H a = some (.dK kvs)) : Th H (.ref a)
def isStr : V → Bool
  | .str _ => true
  | _ => false
def isBl : V → Bool
  | .bl _ => true
  | _ => false
theorem Th.str_ {K : PySem.W.Frag} {H : Hp} {v : V} (h : Th H v) : ∃ t, TyX K H v t ∧ PySem.W.kitOne K t (.type "str") = some (isStr v) := by
  cases h with
  | non => exact ⟨_, .base .non, kit_ty (r := false) (by decide +kernel)⟩
  | bl b => exact ⟨_, .base (.bl b), kit_ty (r := false) (by decide +kernel)⟩
  | int i => exact ⟨_, .base (.int i), kit_ty (r := false) (by decide +kernel)⟩
  | str z => exact ⟨_, .base (.str z), kit_ty (r := true) (by decide +kernel)⟩
  | lst e => exact ⟨_, .base (.lst e), kit_ty (r := false) (by decide +kernel)⟩
  | tup e => exact ⟨_, .base (.tup e), kit_ty (r := false) (by decide +kernel)⟩
  | dK e => exact ⟨_, .base (.dK e), kit_ty (r := false) (by decide +kernel)⟩
/-! ### names -/
def LETS : Str := "abcdefghijklmnopqrstuvwxyz"
def FIGS : Str := "0123456789"
def isLet (c : Nat) : Bool := decide (c ∈ LETS.cps.toList)
def isFig (c : Nat) : Bool := decide (c ∈ FIGS.cps.toList)
def nameB (z : Str) : Bool := decide (1 ≤ (z.length : Int)) && (decide ((z.length : Int) ≤ 8) && ((match z.cps.toList with
  | [] => false
  | c :: _ => isLet c) && z.cps.toList.all fun c => isLet c || isFig c))
def nameV : V → Bool
  | .str z => nameB z
  | _ => false
theorem nameV_no {v : V} (h : isStr v = false) : nameV v = false := by
  cases v <;> first | rfl | cases h
theorem cps_len (z : Str) : z.cps.toList.length = z.length := by simp [Str.length]
theorem head_of {z : Str} (h : 1 ≤ (z.length : Int)) : ∃ c r, z.cps.toList = c :: r := by
  have hl := cps_len z
  cases e : z.cps.toList with
  | nil =>
    rw [e] at hl
    have h1 : (0 : Nat) = z.length := hl
    omega
  | cons c r => exact ⟨c, r, rfl⟩
theorem all_id {l : List Nat} {pb : Nat → Bool} : (l.map pb).all id = l.all pb := by
  rw [List.all_map] <;> rfl
theorem both_lets (c : Nat) : decide (c ∈ (LETS ++ FIGS).cps.toList) = (isLet c || isFig c) := by
  have e : (LETS ++ FIGS).cps.toList = LETS.cps.toList ++ FIGS.cps.toList := by
    show (LETS.cps ++ FIGS.cps).toList = _
    rw [Array.toList_append]
  unfold isLet isFig
  rw [e, Bool.eq_iff_iff, decide_eq_true_eq, List.mem_append, Bool.or_eq_true, decide_eq_true_eq, decide_eq_true_eq]
/-- a list over a text's signs -/
theorem lc_str {z : Str} {g : TG} {tt : TT} {te : TE} {vs : List Nat} {σ : L2.St} {H1 : Hp} {D : Addr} {Qd : Hp → Prop} (Pv : Nat → Hp → Prop) (h0 : Pv 0 (upd H1 D (.lst [])))
    (hs : ∀ i c H, z.cps.toList[i]? = some c → Pv i H → g (.str ⟨#[c]⟩) (wipe σ vs) H fun σ2 H2 => wipe σ2 vs = wipe σ vs ∧ tt σ2 H2 fun b H3 =>
      if b = true then te σ2 H3 fun y H4 => ∃ acc, H4 D = some (.lst acc) ∧ acc.length < sizeLine ∧ Pv (i + 1) (upd H4 D (.lst (acc ++ [y]))) else Pv (i + 1) H3) (hd : ∀ H, Pv z.cps.toList.length H → Qd H) :
    ∃ W : Nat → Nat → Hp → Prop, (∃ m, W 0 m (upd H1 D (.lst []))) ∧ ∀ i m H, W i m H →
      ((Its z).stop i H ∧ Qd H) ∨ ((Its z).go i H ∧ ∃ Nx : Hp → Prop, (∀ H', Nx H' → ∃ m', m' < m ∧ W (i + 1) m' H') ∧ ∀ x H', (Its z).yld i H x H' → g x (wipe σ vs) H' fun σ2 H2 => wipe σ2 vs = wipe σ vs ∧ tt σ2 H2 fun b H3 =>
        if b = true then te σ2 H3 fun y H4 => ∃ acc, H4 D = some (.lst acc) ∧ acc.length < sizeLine ∧ Nx (upd H4 D (.lst (acc ++ [y]))) else Nx H3) := by
  have el : z.cps.toList.length = z.cps.size := Array.length_toList
  refine ⟨fun i m H => m = z.cps.size - i ∧ i ≤ z.cps.size ∧ Pv i H, ⟨_, rfl, Nat.zero_le _, h0⟩, ?_⟩
  rintro i m H ⟨rfl, hi, pv⟩
  rcases Nat.lt_or_ge i z.cps.size with lt | ge
  · refine .inr ⟨lt, Pv (i + 1), fun H' q => ⟨_, Nat.sub_succ_lt_self _ _ lt, rfl, lt, q⟩, ?_⟩
    rintro x H' ⟨rfl, c, ec, rfl⟩
    exact hs i c _ (by rw [Array.getElem?_toList]; exact ec) pv
  · obtain rfl : i = z.cps.size := Nat.le_antisymm hi ge
    exact .inl ⟨Nat.le_refl _, hd H (by rw [el]; exact pv)⟩
theorem bls_take {l : List Nat} {pb : Nat → Bool} {i c : Nat} (h : l[i]? = some c) : (l.take (i + 1)).map pb = (l.take i).map pb ++ [pb c] := by
  rw [List.take_add_one, h, List.map_append] <;> rfl
/-! ### the pen -/
structure Pen (H : Hp) (p L : Addr) (ns : List Int) (n : Nat) : Prop where
  at_ : ∃ a r : Int, H p = some (.lst [.ref L, .int a, .int r]) ∧ 0 ≤ a ∧ a ≤ n
  ls : H L = some (.lst (ns.map V.int))
  few : ns.length ≤ 63
theorem Pen.ne {H : Hp} {p L : Addr} {ns : List Int} {n : Nat} (h : Pen H p L ns n) : p ≠ L := by
  intro e
  obtain ⟨a, r, h1, _⟩ := h.at_
  have h2 := h.ls
  rw [← e, h1] at h2
  have h3 := HO.lst.inj (Option.some.inj h2)
  cases ns with
  | nil => cases h3
  | cons z r => cases (List.cons.inj h3).1
theorem Pen.up {H : Hp} {p L : Addr} {ns : List Int} {n m : Nat} (h : Pen H p L ns n) (hm : n ≤ m) : Pen H p L ns m := by
  obtain ⟨⟨a, r, h1, h2, h3⟩, h4, h5⟩ := h
  exact ⟨⟨a, r, h1, h2, by omega⟩, h4, h5⟩
/-- set anew -/
theorem Pen.put {H : Hp} {p L : Addr} {ns : List Int} {n m : Nat} {a r : Int} (h : Pen H p L ns n) (h1 : 0 ≤ a) (h2 : a ≤ m) : Pen (upd H p (.lst [.ref L, .int a, .int r])) p L ns m :=
  ⟨⟨a, r, upd_same, h1, h2⟩, by rw [upd_ne h.ne.symm]; exact h.ls, h.few⟩
theorem Pen.keep {H H' : Hp} {p L : Addr} {ns : List Int} {n : Nat} (h : Pen H p L ns n) (hp : H' p = H p) (hl : H' L = H L) : Pen H' p L ns n := by
  obtain ⟨⟨a, r, h1, h2, h3⟩, h4, h5⟩ := h
  exact ⟨⟨a, r, by rw [hp]; exact h1, h2, h3⟩, by rw [hl]; exact h4, h5⟩
theorem Pen.keep' {H H' : Hp} {p L : Addr} {ns : List Int} {n : Nat} (h : Pen H p L ns n) (k : Same H H') : Pen H' p L ns n := by
  obtain ⟨⟨a, r, h1, h2, h3⟩, h4, h5⟩ := h
  exact ⟨⟨a, r, k _ _ h1, h2, h3⟩, k _ _ h4, h5⟩
/-- only the pen has changed -/
def But (p : Addr) (H H' : Hp) : Prop := ∀ b, b ≠ p → H' b = H b
theorem But.refl {p : Addr} {H : Hp} : But p H H := fun _ _ => rfl
theorem But.trans {p : Addr} {H H1 H2 : Hp} (a : But p H H1) (b : But p H1 H2) : But p H H2 := fun c h => (b c h).trans (a c h)
theorem But.upd {p : Addr} {H : Hp} {o : HO} : But p H (upd H p o) := fun _ h => upd_ne h
theorem strAt {z : Str} {k : Int} (h0 : 0 ≤ k) (h1 : k < (z.length : Int)) : ∃ c, atI z.cps.toList k = some c := by
  obtain ⟨j, rfl⟩ : ∃ j : Nat, k = (j : Int) := ⟨_, (Int.toNat_of_nonneg h0).symm⟩
  have hj : j < z.cps.toList.length := by rw [cps_len]; omega
  exact ⟨_, atI_nat (List.getElem?_eq_getElem hj)⟩
theorem listAt {xs : List V} {k : Int} (h0 : 0 ≤ k) (h1 : k < (xs.length : Int)) : ∃ v, atI xs k = some v ∧ v ∈ xs := by
  obtain ⟨j, rfl⟩ : ∃ j : Nat, k = (j : Int) := ⟨_, (Int.toNat_of_nonneg h0).symm⟩
  have hj : j < xs.length := by omega
  exact ⟨_, atI_nat (List.getElem?_eq_getElem hj), List.getElem_mem hj⟩
/-- what was tracked, but for the pen, is as it was -/
def Kp (p : Addr) (H H' : Hp) : Prop := ∀ b o, H b = some o → b ≠ p → H' b = some o
theorem Kp.refl {p : Addr} {H : Hp} : Kp p H H := fun _ _ h _ => h
theorem Kp.trans {p : Addr} {H H1 H2 : Hp} (a : Kp p H H1) (b : Kp p H1 H2) : Kp p H H2 := fun c o h n => b c o (a c o h n) n
theorem But.kp {p : Addr} {H H' : Hp} (a : But p H H') : Kp p H H' := fun b o h n => (a b n).trans h
theorem Kp.new {p D : Addr} {H : Hp} {o : HO} (h : H D = none) : Kp p H (upd H D o) := fun b u e _ => by rw [upd_ne (ne_of_none e h)]; exact e
theorem Pen.new {H : Hp} {p L D : Addr} {ns : List Int} {n : Nat} {o : HO} (h : Pen H p L ns n) (hD : H D = none) : Pen (upd H D o) p L ns n := by
  obtain ⟨a, r, h1, _⟩ := h.at_
  exact h.keep (upd_ne (ne_of_none h1 hD)) (upd_ne (ne_of_none h.ls hD))
theorem Pen.lt_new {H : Hp} {p L D : Addr} {ns : List Int} {n : Nat} (h : Pen H p L ns n) (hD : H D = none) : D ≠ p := by
  obtain ⟨a, r, h1, _⟩ := h.at_
  exact (ne_of_none h1 hD).symm
theorem cut63 {xs : List V} (h : xs.length ≤ 63) : cutV xs none (some 63) = xs := by
  unfold cutV
  rw [HT.sIx_none, show HT.sIx xs.length xs.length (some 63) = min 63 xs.length from HT.sIx_nat xs.length xs.length 63, Nat.min_eq_right h, Nat.sub_zero, List.drop_zero]
  exact List.take_length
theorem len_add (a b : Str) : (a ++ b).length = a.length + b.length := by
  show (a.cps ++ b.cps).size = _
  rw [Array.size_append] <;> rfl
theorem len_one (c : Nat) : (⟨#[c]⟩ : Str).length = 1 := rfl
theorem ones_sum : ∀ {ys : List Str}, (∀ y ∈ ys, y.length = 1) → (ys.map (·.length)).sum = ys.length
  | [], _ => rfl
  | y :: r, h => by
    have ih := ones_sum (ys := r) fun z hz => h z (List.mem_cons_of_mem _ hz)
    have h1 := h y List.mem_cons_self
    show (y.length :: r.map (·.length)).sum = r.length + 1
    rw [List.sum_cons, ih, h1]
    omega
theorem ones_join {ys : List Str} (h : ∀ y ∈ ys, y.length = 1) : (Txt.join ("" : Str) ys).length ≤ ys.length := by
  have h2 := StrLaws.join_length_le ("" : Str) ys
  rw [ones_sum h, show ("" : Str).length = 0 by decide +kernel, Nat.mul_zero, Nat.add_zero] at h2
  rw [show Txt.join ("" : Str) ys = Str.join ("" : Str) ys from StrLaws.glued_eq_join ("" : Str) ys]
  exact h2
theorem mul_len {z : Str} (h : z.length ≤ 20) : (Txt.mul z 2).length ≤ 40 := by
  unfold Txt.mul
  rw [if_neg (by decide)]
  split
  · omega
  · show ((List.replicate 2 z.cps).foldl (· ++ ·) #[]).size ≤ 40
    show ((#[] ++ z.cps) ++ z.cps).size ≤ 40
    rw [Array.size_append, Array.size_append]
    have h2 : z.cps.size ≤ 20 := h
    show 0 + z.cps.size + z.cps.size ≤ 40
    omega
/-- what was tracked, but for a table, is as it was -/
theorem Th.kt {H H' : Hp} {P' : Addr} {v : V} (h : Th H v) (g : TabG H P') (k : ∀ b o, H b = some o → b ≠ P' → H' b = some o) : Th H' v := by
  obtain ⟨ps, g, _⟩ := g
  cases h with
  | non => exact .non
  | bl b => exact .bl b
  | int i => exact .int i
  | str z => exact .str z
  | lst e => exact .lst (k _ _ e (ne_of e g (fun q => by cases q)))
  | tup e => exact .tup (k _ _ e (ne_of e g (fun q => by cases q)))
  | dK e => exact .dK (k _ _ e (ne_of e g (fun q => by cases q)))
theorem tabbedKt {P' : Addr} {H H' : Hp} (h : Tabbed P' H H') : ∀ b o, H b = some o → b ≠ P' → H' b = some o := fun b o e n => (h.2 b n).trans e
theorem Pen.kt {H H' : Hp} {p L P' : Addr} {ns : List Int} {n : Nat} (h : Pen H p L ns n) (g : TabG H P') (k : ∀ b o, H b = some o → b ≠ P' → H' b = some o) : Pen H' p L ns n := by
  obtain ⟨ps, g, _⟩ := g
  obtain ⟨⟨a, r, h1, h2, h3⟩, h4, h5⟩ := h
  exact ⟨⟨a, r, k _ _ h1 (ne_of h1 g (fun q => by cases q)), h2, h3⟩, k _ _ h4 (ne_of h4 g (fun q => by cases q)), h5⟩
theorem tabSame {P' : Addr} {H H' : Hp} (g : TabG H P') (k : Same H H') : TabG H' P' := by
  obtain ⟨ps, g, t⟩ := g
  exact ⟨ps, k _ _ g, t⟩
theorem tabKp {p P' : Addr} {H H' : Hp} {a : List V} (g : TabG H P') (hp : H p = some (.lst a)) (k : Kp p H H') : TabG H' P' := by
  obtain ⟨ps, g, t⟩ := g
  exact ⟨ps, k _ _ g (ne_of g hp (fun q => by cases q)), t⟩
theorem Pen.tab {H H' : Hp} {p L P' : Addr} {ns : List Int} {n : Nat} (h : Pen H p L ns n) (g : TabG H P') (k : Kp p H H') : TabG H' P' := by
  obtain ⟨a, r, h1, _⟩ := h.at_
  exact tabKp g h1 k
theorem same_new {D : Addr} {H : Hp} {o : HO} (h : H D = none) : Same H (upd H D o) := fun b u e => by rw [upd_ne (ne_of_none e h)]; exact e
theorem sameKp {p : Addr} {H H' : Hp} (h : Same H H') : Kp p H H' := fun b o e _ => h b o e
/-- a thing of known type, a text that is not too long -/
def Ok1 (H : Hp) (v : V) : Prop := Th H v ∧ ∀ z, v = .str z → z.length ≤ sizeLine
theorem Th.same {H H' : Hp} {v : V} (h : Th H v) (k : Same H H') : Th H' v := by
  cases h with
  | non => exact .non
  | bl b => exact .bl b
  | int i => exact .int i
  | str z => exact .str z
  | lst e => exact .lst (k _ _ e)
  | tup e => exact .tup (k _ _ e)
  | dK e => exact .dK (k _ _ e)
theorem ok_str {H : Hp} {z : Str} (h : z.length ≤ sizeLine) : Ok1 H (.str z) := ⟨.str z, fun _ e => by cases e; exact h⟩
theorem ok_ref {H : Hp} {a : Addr} (h : Th H (.ref a)) : Ok1 H (.ref a) := ⟨h, fun _ e => nomatch e⟩
def spDraw : Sp := fun vs H Q _ => ∃ (p L : Addr) (ns : List Int) (n : Nat) (many : Int), vs = [.ref p, .int many] ∧ Pen H p L ns n ∧ 0 < many ∧ many < 1000000 ∧ n < 1000000 ∧
  ∀ (k : Int) (H' : Hp), 0 ≤ k → k < many → Pen H' p L ns (n + 1) → But p H H' → Q (.int k) H'
end Gx

set_option Elab.async false
set_option linter.all false
set_option maxRecDepth 100000
set_option maxHeartbeats 2000000
/-! all(element for target in things): the element any expression, calls and generators in it too. -/
namespace Gq
open PySem PySem.Spec PyProof.Rows L2 GxR GenW

/-! ### the around of a running generator -/
/-- where the generator's code runs when all() asks it -/
abbrev B3 (A : Around) : Around := A.in1.in1
section
variable {A : Around} {elt iter tg : Expr} {scope : Scope} {pos : Pos} {it acc : Value} {ge : Env}
theorem over_frames {l : List Env} (h : A.frames = some l) : ((B3 A).over (.compLoop (.GeneratorExp elt [⟨tg, iter, [], 0⟩] scope pos) 0 it acc ge) []).frames = some (ge :: l) := by
  show pushEnvs (Code.envs (.compLoop (.GeneratorExp elt [⟨tg, iter, [], 0⟩] scope pos) 0 it acc ge)) (pushEnvs (envsOf []) A.frames) = _
  rw [h]
  rfl
theorem over_hd (h : A.handled = none) : ((B3 A).over (.compLoop (.GeneratorExp elt [⟨tg, iter, [], 0⟩] scope pos) 0 it acc ge) []).handled = none := h
theorem over_room {k : Nat} (h : Room (k + 1) A) : Room k ((B3 A).over (.compLoop (.GeneratorExp elt [⟨tg, iter, [], 0⟩] scope pos) 0 it acc ge) []) := by
  refine ⟨h.hd, ?_, ?_⟩
  · have := h.dp
    show A.depth + 0 + 1 + 3 * k + 5 < _
    omega
  · have := h.un
    show A.units + 1 + 1 + 0 + 3 + 16 * k + 200 < _
    omega
end

/-! ### the generator's context -/
abbrev gctx (X : Cx) (s : Shared) (H : Hp) (ge : Env) (A : Around) (fp : List Addr) : Cx :=
  { X with A := A, s_0 := s, H_0 := H, env := ge, outer := X.stack, stack := ge :: X.stack, ex := fp, fn := fun _ => false, pn := [], calm := true, xe := fun _ _ => False }
section
variable {X : Cx} {pins : List (Addr × Obj)} {σ : L2.St} {H : Hp} {s : Shared}
theorem gen_start {scope : Scope} {own : List (Str × Nat)} {fp : List Addr} {A : Around} {cd : Value} {h5 : Heap} {g5 : Array GenState} {t5 : Nat} {m5 : Str → Option Value}
    (I : L2.Inv X pins σ H s) (ok : BlkOk X.N X.env.scope scope own) (nocell : ∀ y ∈ scope.names, y.2 ≠ .cell) (hN : X.N.Nodup) (hfp : ∀ b ∈ fp, FpOk X pins H b ∧ b < s.heap.objs.size)
    (hA : A.handled = none) (hF : A.frames = some (genEnv scope (cloFrom X.env.cells scope.names []) s.heap.objs.size cd builtinsNs X.env :: X.stack))
    (kp : ∀ b o, s.heap.get? b = some o → h5.get? b = some o) (hns : h5.Ns s.heap.objs.size m5) (hg : AllBare g5) :
    L2.Inv (gctx X s H (genEnv scope (cloFrom X.env.cells scope.names []) s.heap.objs.size cd builtinsNs X.env) A fp) [] (wipe σ (own.map (·.2))) H { s with heap := h5, gens := g5, toks := t5 } := by
  have hfree : ∀ y ∈ scope.names, y.2 = .free → ∃ c, X.env.cells.lookup y.1 = some c := fun y hy e => by
    rcases ok.free y hy e with k | k
    · exact I.ok.has _ (.inl k)
    · exact I.ok.has _ (.inr k)
  have cm : ∀ {y c}, (y, c) ∈ cloFrom X.env.cells scope.names [] → X.env.cells.lookup y = some c ∧ c < s.heap.objs.size := fun {y c} hm => by
    rcases cloFrom_mem hm with hm | ⟨h1, rfl⟩
    · cases hm
    · obtain ⟨c, hc⟩ := hfree _ h1 rfl
      rw [hc]
      obtain ⟨w, z⟩ := I.cell _ _ hc
      exact ⟨rfl, z.lt⟩
  generalize hge : genEnv scope (cloFrom X.env.cells scope.names []) s.heap.objs.size cd builtinsNs X.env = ge at hF ⊢
  have hL : ge.locals = s.heap.objs.size := by rw [← hge] <;> rfl
  have hcl : ge.cells = cloFrom X.env.cells scope.names [] := by rw [← hge] <;> rfl
  have hsc : ge.scope = scope := by rw [← hge] <;> rfl
  have mem : ∀ {y c}, ge.cells.lookup y = some c → X.env.cells.lookup y = some c ∧ c < s.heap.objs.size := fun {y c} e => cm (by rw [hcl] at e; exact PySem.mem_of_lookup e)
  have look : ∀ {y}, scope.names.lookup y = some .free → ∃ c, ge.cells.lookup y = some c := fun {y} hl => by
    rw [hcl]
    exact L2.mem_lookup (cloFrom_has (cells := X.env.cells) (acc := []) (PySem.mem_of_lookup hl))
  have okG : (gctx X s H ge A fp).Ok := by
    refine ⟨I.ok.mod, by show ge.scope.kind = _; rw [hsc]; exact ok.kind, by show ge.globals = _; rw [← hge]; exact I.ok.glob, by show ge.builtins = _; rw [← hge] <;> rfl, by show s.heap.objs.size ≤ ge.locals; rw [hL]; exact Nat.le_refl _,
      fun y z c e1 e2 => I.ok.inj y z c (mem e1).1 (mem e2).1, fun y hy => ?_, fun y c z _ => absurd (show false = true from z) Bool.false_ne_true, fun _ => hA, hF, .inr ⟨rfl, by show ge.frame = some ge.locals; rw [← hge] <;> rfl⟩, fun b hb => ⟨?_, fun y c e z => ?_⟩, I.bs, Nat.le_trans I.ok.bsz I.sz, fun b o e hb => ?_, fun b hb z => ?_, I.stack, I.stkFree⟩
    · show ∃ c, ge.cells.lookup y = some c
      have hy : scope.names.lookup y = some .cell ∨ scope.names.lookup y = some .free := by
        have z : ge.scope.names.lookup y = some .cell ∨ ge.scope.names.lookup y = some .free := hy
        rw [hsc] at z
        exact z
      rcases hy with hy | hy
      · exact absurd rfl (nocell _ (PySem.mem_of_lookup hy))
      · exact look hy
    · show b ≠ ge.locals
      rw [hL]
      exact Nat.ne_of_lt (hfp b hb).2
    · exact (hfp b hb).1.2.2.2.2.1 y c (mem (show ge.cells.lookup y = some c from e)).1 z
    · rcases (hfp b hb).1.2.2.2.1 with z | z
      · exact I.ok.noex b o e z
      · exact absurd (Nat.lt_of_lt_of_le (Heap.lt_size e) (Nat.le_trans I.ok.bsz z)) (Nat.lt_irrefl _)
    · rcases List.mem_cons.mp (I.stkSub b z) with z | z
      · exact (hfp b hb).1.2.1 z
      · exact (hfp b hb).1.2.2.1 z
  refine ⟨okG, rfl, hg, Un.kept kp, ⟨m5, by show h5.Ns ge.locals m5; rw [hL]; exact hns, fun i y av e1 e2 e3 => ?_⟩, fun y c e => ?_, ?_, fun y c e => ?_, fun p hp => ?_, I.hok.kept kp, by rw [wipe_length]; exact I.len⟩
  · obtain ⟨e2, hne⟩ := wipe_some e2
    have e3 : Vis ge.scope y := e3
    rw [hsc] at e3
    have no : ¬ (scope.names.lookup y = some .local) := fun hh => by
      rcases ok.own _ (PySem.mem_of_lookup hh) (.inl rfl) with e' | e'
      · obtain ⟨p, hp, hpy⟩ := List.mem_map.mp e'
        have e4 := ok.ix p hp
        have hpy : p.1 = y := hpy
        rw [hpy] at e4
        exact hne (List.mem_map.mpr ⟨p, hp, nodup_ix hN e4 e1⟩)
      · exact e' (List.mem_of_getElem? e1)
    have hfr : scope.names.lookup y = some .free := by
      rcases e3 with e3 | e3 | e3
      · exact absurd e3 no
      · exact absurd rfl (nocell _ (PySem.mem_of_lookup e3))
      · exact e3
    obtain ⟨m, hn, hl⟩ := I.loc
    have hvis : Vis X.env.scope y := (ok.free _ (PySem.mem_of_lookup hfr) rfl).elim (fun k => .inr (.inl k)) (fun k => .inr (.inr k))
    obtain ⟨w, r, q⟩ := hl i y av e1 e2 hvis
    obtain ⟨c, h1⟩ := look hfr
    refine ⟨w, r, .inr ⟨.inr (by show ge.scope.names.lookup y = _; rw [hsc]; exact hfr), c, h1, ?_⟩⟩
    rcases q with ⟨k, _⟩ | ⟨_, c', e', z⟩
    · have k : X.env.scope.names.lookup y = some .local := k
      rcases ok.free _ (PySem.mem_of_lookup hfr) rfl with k' | k' <;> rw [show X.env.scope.names.lookup y = _ from k'] at k <;> cases k
    · have h2 := (mem h1).1
      rw [h2] at e'
      cases e'
      exact z.keeps kp
  · obtain ⟨w, z⟩ := I.cell y c (mem (show ge.cells.lookup y = some c from e)).1
    exact ⟨w, z.keeps kp⟩
  · show H ge.locals = none
    rw [hL]
    exact I.hok.fresh (Nat.le_refl _)
  · exact I.freeC y c (mem (show ge.cells.lookup y = some c from e)).1
  · exact absurd (show p ∈ ([] : List (Addr × Obj)) ++ [] from hp) (by simp)
end

/-- asleep between two items: the heap stands -/
def Awake (s s' : Shared) : Prop := s'.os = s.os ∧ AllBare s'.gens ∧ ∀ b o, s.heap.get? b = some o → s'.heap.get? b = some o
theorem awake {X : Cx} {pins : List (Addr × Obj)} {σ : L2.St} {H : Hp} {s s' : Shared} (I : L2.Inv X pins σ H s) (w : Awake s s') : L2.Inv X pins σ H s' := by
  obtain ⟨hp, g, d, t, os⟩ := s'
  obtain ⟨w1, w2, w3⟩ := w
  have w1 : os = s.os := w1
  subst w1
  refine I.step (h' := hp) (g' := g) (t' := t) (d' := d) (ch := []) (fun b hb => absurd hb (by simp)) (fun b o _ _ _ e _ => w3 b o e) (fun b o _ _ _ e _ => ⟨o.slots, w3 b o e⟩)
    (fun _ _ _ _ n => n) (fun b o _ e => ⟨o, w3 b o e⟩) (fun _ _ e => e) (fun _ _ _ e => e) (fun b ps e => ⟨#[], by rw [e]; simp⟩) (fun m hm => hm.keeps w3) (I.hok.kept w3) w2

/-- what an item's handing out means: go: the truth at which one goes on; else Qs -/
def GYp (X : Cx) (pins : List (Addr × Obj)) (σ : L2.St) (go : Bool) (Qs : Hp → Prop) (a : Addr) (g : Nat) : Protocol := fun n s₀ v s kap =>
  ∃ b : Bool, v = .bool b ∧ s.heap.IsGen a g ∧ s.heap.NoLimit ∧ AllBare s.gens ∧ (b = go → ∀ s', Awake s s' → kap (.send .none) s') ∧ (b ≠ go → ∃ H', L2.Inv X pins σ H' s ∧ Qs H')
/-- the end of the things -/
def GRp (X : Cx) (pins : List (Addr × Obj)) (σ : L2.St) (Qe : Hp → Prop) : Shared → Prop := fun s => ∃ H', L2.Inv X pins σ H' s ∧ Qe H'

def GEp (X : Cx) (pins : List (Addr × Obj)) (σ : L2.St) (Qe : Hp → Prop) : GenEnd := fun n s₀ r s₁ => ((r = .ok (.ret .none) ∨ r = .ok .next) ∧ GRp X pins σ Qe s₁) ∨ ∃ e, r = .error e ∧ False
theorem Awake.refl' {s : Shared} (h : AllBare s.gens) : Awake s s := ⟨rfl, h, fun _ _ e => e⟩
theorem rest_gen {X : Cx} {pins : List (Addr × Obj)} {σ : L2.St} {Q : Hp → Prop} {s s' : Shared} (h : GRp X pins σ Q s) (w : Awake s s') : GRp X pins σ Q s' := by
  obtain ⟨H, I, q⟩ := h
  exact ⟨H, awake I w, q⟩
section
variable {X : Cx} {pins : List (Addr × Obj)} {σ : L2.St} {a : Addr} {g : Nat} {A : Around} {Qs Qe : Hp → Prop} {R : Result → Shared → Prop}
/-- all() asks on -/
theorem all_loopQ (hh : A.handled = none) (hd : A.depth < recursionLimit) (hend : ∀ s', GRp X pins σ Qe s' → R (.ok (.ret (.bool true))) s') (hstop : ∀ s', GRp X pins σ Qs s' → R (.ok (.ret (.bool false))) s') :
    ∀ (n : Nat) (s : Shared) (gs : GenState), s.heap.IsGen a g → s.heap.NoLimit → s.gens[g]? = some gs → gs.Goes (model X.prog X.w) A.in1.in1 (GEp X pins σ Qe) (GYp X pins σ true Qs a g) n (.send .none) (s.setGen g .running) →
      codeAny (model X.prog X.w) A (.builtin "all.loop" ⟨[.ref a], []⟩) R s := by
  intro n
  induction n with
  | zero =>
    intro s gs hg hl hgs hgo
    refine codeAny_builtin F.entry_all_loop ?_
    rw [Around.under_plainId F.plain_all_loop _]
    show wpAny _ A.in1 (pyNext (.ref a) >>= _) _ _ s
    refine wpAny_bind (next_genG (Er := fun _ _ => False) (A := A.in1) hh hl hd hg hgs hgo (fun v s₁ gs' hb hv => ?_) (fun s₁ hp h' hk => ?_) fun e s₁ he => he.elim)
    · obtain ⟨b, rfl, hg1, hl1, hb1, hgo1, hst⟩ := hv
      refine wpAny_bind (wpAny_holding (wpAny_truthy_bool ?_))
      refine wpAny_bind (wpAny_letGo ?_)
      cases b with
      | true => exact (hgo1 rfl s₁ (Awake.refl' hb1)).elim
      | false =>
        simp only [Bool.false_eq_true, if_false]
        exact wpAny_bind (wpAny_rule (wpAny_pure (hstop _ (rest_gen (hst (by decide)) ⟨rfl, allBare_setGen hb1 hb, fun _ _ e => e⟩))))
    · refine wpAny_bind (wpAny_rule (wpAny_pure ?_))
      obtain ⟨H', I', q⟩ := hp
      exact hend _ ⟨H', awake I' ⟨rfl, allBare_setGen I'.bare rfl, hk⟩, q⟩
  | succ n ih =>
    intro s gs hg hl hgs hgo
    have hgl : g < s.gens.size := (Array.getElem?_eq_some_iff.mp hgs).1
    refine codeAny_builtin F.entry_all_loop ?_
    rw [Around.under_plainId F.plain_all_loop _]
    show wpAny _ A.in1 (pyNext (.ref a) >>= _) _ _ s
    refine wpAny_bind (wpAny_gsz (n := g + 1) hgl (next_genG (Er := fun _ _ => False) (A := A.in1) hh hl hd hg hgs hgo (fun v s₁ gs' hb hv => ?_) (fun s₁ hp h' hk => ?_) fun e s₁ he => he.elim))
    · intro hsz
      obtain ⟨b, rfl, hg1, hl1, hb1, hgo1, hst⟩ := hv
      refine wpAny_bind (wpAny_holding (wpAny_truthy_bool ?_))
      refine wpAny_bind (wpAny_letGo ?_)
      cases b with
      | true =>
        simp only [if_true]
        have hsz1 : g < s₁.gens.size := by
          have z : (s₁.setGen g gs').gens.size = s₁.gens.size := setGen_size _ _ _
          rw [z] at hsz
          omega
        refine wpAny_pure ⟨plainId_quiet F.plain_all_loop _, ih _ gs' hg1 hl1 (setGen_at hsz1) ?_⟩
        exact hgo1 rfl _ ⟨rfl, allBare_setGen (allBare_setGen hb1 hb) rfl, fun _ _ e => e⟩
      | false =>
        simp only [Bool.false_eq_true, if_false]
        exact wpAny_bind (wpAny_rule (wpAny_pure (hstop _ (rest_gen (hst (by decide)) ⟨rfl, allBare_setGen hb1 hb, fun _ _ e => e⟩))))
    · intro _
      refine wpAny_bind (wpAny_rule (wpAny_pure ?_))
      obtain ⟨H', I', q⟩ := hp
      exact hend _ ⟨H', awake I' ⟨rfl, allBare_setGen I'.bare rfl, hk⟩, q⟩
/-- any() asks on -/
theorem any_loopQ (hh : A.handled = none) (hd : A.depth < recursionLimit) (hend : ∀ s', GRp X pins σ Qe s' → R (.ok (.ret (.bool false))) s') (hstop : ∀ s', GRp X pins σ Qs s' → R (.ok (.ret (.bool true))) s') :
    ∀ (n : Nat) (s : Shared) (gs : GenState), s.heap.IsGen a g → s.heap.NoLimit → s.gens[g]? = some gs → gs.Goes (model X.prog X.w) A.in1.in1 (GEp X pins σ Qe) (GYp X pins σ false Qs a g) n (.send .none) (s.setGen g .running) →
      codeAny (model X.prog X.w) A (.builtin "any.loop" ⟨[.ref a], []⟩) R s := by
  intro n
  induction n with
  | zero =>
    intro s gs hg hl hgs hgo
    refine codeAny_builtin F.entry_any_loop ?_
    rw [Around.under_plainId F.plain_any_loop _]
    show wpAny _ A.in1 (pyNext (.ref a) >>= _) _ _ s
    refine wpAny_bind (next_genG (Er := fun _ _ => False) (A := A.in1) hh hl hd hg hgs hgo (fun v s₁ gs' hb hv => ?_) (fun s₁ hp h' hk => ?_) fun e s₁ he => he.elim)
    · obtain ⟨b, rfl, hg1, hl1, hb1, hgo1, hst⟩ := hv
      refine wpAny_bind (wpAny_holding (wpAny_truthy_bool ?_))
      refine wpAny_bind (wpAny_letGo ?_)
      cases b with
      | false => exact (hgo1 rfl s₁ (Awake.refl' hb1)).elim
      | true =>
        simp only [if_true]
        exact wpAny_bind (wpAny_rule (wpAny_pure (hstop _ (rest_gen (hst (by decide)) ⟨rfl, allBare_setGen hb1 hb, fun _ _ e => e⟩))))
    · refine wpAny_bind (wpAny_rule (wpAny_pure ?_))
      obtain ⟨H', I', q⟩ := hp
      exact hend _ ⟨H', awake I' ⟨rfl, allBare_setGen I'.bare rfl, hk⟩, q⟩
  | succ n ih =>
    intro s gs hg hl hgs hgo
    have hgl : g < s.gens.size := (Array.getElem?_eq_some_iff.mp hgs).1
    refine codeAny_builtin F.entry_any_loop ?_
    rw [Around.under_plainId F.plain_any_loop _]
    show wpAny _ A.in1 (pyNext (.ref a) >>= _) _ _ s
    refine wpAny_bind (wpAny_gsz (n := g + 1) hgl (next_genG (Er := fun _ _ => False) (A := A.in1) hh hl hd hg hgs hgo (fun v s₁ gs' hb hv => ?_) (fun s₁ hp h' hk => ?_) fun e s₁ he => he.elim))
    · intro hsz
      obtain ⟨b, rfl, hg1, hl1, hb1, hgo1, hst⟩ := hv
      refine wpAny_bind (wpAny_holding (wpAny_truthy_bool ?_))
      refine wpAny_bind (wpAny_letGo ?_)
      cases b with
      | false =>
        simp only [Bool.false_eq_true, if_false]
        have hsz1 : g < s₁.gens.size := by
          have z : (s₁.setGen g gs').gens.size = s₁.gens.size := setGen_size _ _ _
          rw [z] at hsz
          omega
        refine wpAny_pure ⟨plainId_quiet F.plain_any_loop _, ih _ gs' hg1 hl1 (setGen_at hsz1) ?_⟩
        exact hgo1 rfl _ ⟨rfl, allBare_setGen (allBare_setGen hb1 hb) rfl, fun _ _ e => e⟩
      | true =>
        simp only [if_true]
        exact wpAny_bind (wpAny_rule (wpAny_pure (hstop _ (rest_gen (hst (by decide)) ⟨rfl, allBare_setGen hb1 hb, fun _ _ e => e⟩))))
    · intro _
      refine wpAny_bind (wpAny_rule (wpAny_pure ?_))
      obtain ⟨H', I', q⟩ := hp
      exact hend _ ⟨H', awake I' ⟨rfl, allBare_setGen I'.bare rfl, hk⟩, q⟩
end

section
variable {X : Cx} {pins : List (Addr × Obj)} {σ : L2.St} {H3 : Hp} {s3 : Shared}
theorem gen_loop {elt iter tg : Expr} {scope : Scope} {own : List (Str × Nat)} {gpos : Pos} {fp : List Addr} {A : Around} {J : It} {it a : Addr} {oa : Obj} {g : Nat} {tn : Nat → Heap → Prop} {go : Bool} {Qs Qe : Hp → Prop} {gT : TG} {te : TE} {W : Nat → Nat → Hp → Prop} {ge : Env} {XG : Cx}
    (I3 : L2.Inv X pins σ H3 s3) (f3 : ∀ b ∈ fp, FpOk X pins H3 b ∧ b < s3.heap.objs.size) (hco : scope.isCoroutine = false) (egs : ge.scope = scope)
    (eXG : XG = gctx X s3 H3 ge (A.over (.compLoop (.GeneratorExp elt [⟨tg, iter, [], 0⟩] scope gpos) 0 (.ref it) .none ge) []) fp)
    (ga : s3.heap.objs.size ≤ a) (isg : ∀ h : Heap, h.get? a = some oa → h.IsGen a g) (T : Turn X.prog X.w X.K tg J fp it tn)
    (pg : PG XG tg gT) (pe : PE XG elt te)
    (turn : ∀ i m H, W i m H → (J.stop i H ∧ Qe H) ∨ (J.go i H ∧ ∃ Nx : Hp → Prop, (∀ H', Nx H' → ∃ m', m' < m ∧ W (i + 1) m' H') ∧ ∀ x H', J.yld i H x H' → gT x (wipe σ (own.map (·.2))) H' fun σ2 H2 => wipe σ2 (own.map (·.2)) = wipe σ (own.map (·.2)) ∧
      te σ2 H2 fun y H3 => ∃ b : Bool, y = .bl b ∧ (b = go → Nx H3) ∧ (b ≠ go → Qs H3))) :
    ∀ (m n i : Nat) (s₀ s : Shared) (H : Hp), m < n → L2.Inv XG [(a, oa)] (wipe σ (own.map (·.2))) H s → tn i s.heap → (∀ b ∈ fp, H b = none) → W i m H →
      Seg (model X.prog X.w) A (GEp X pins σ Qe) (GYp X pins σ go Qs a g) n s₀ (.compLoop (.GeneratorExp elt [⟨tg, iter, [], 0⟩] scope gpos) 0 (.ref it) .none ge)
        ((model X.prog X.w).den (.compLoop (.GeneratorExp elt [⟨tg, iter, [], 0⟩] scope gpos) 0 (.ref it) .none ge)) [] s := by
  subst eXG
  -- back in the def
  have back : ∀ {pn : List (Addr × Obj)} {σ' : L2.St} {H' : Hp} {s' : Shared}, L2.Inv (gctx X s3 H3 ge (A.over (.compLoop (.GeneratorExp elt [⟨tg, iter, [], 0⟩] scope gpos) 0 (.ref it) .none ge) []) fp) pn σ' H' s' → L2.Inv X pins σ H' s' := fun I6 =>
    I3.call' (ch := fp) I6.os I6.base I6.hok I6.bare fun b hb => ⟨(f3 b hb).1.2.2.2.1, (f3 b hb).1.2.1, (f3 b hb).1.2.2.2.2.1, (f3 b hb).1.2.2.2.2.2⟩
  have nfa : ∀ b ∈ fp, a ≠ b := fun b hb z => by
    have lt := (f3 b hb).2
    rw [← z] at lt
    exact absurd (Nat.lt_of_lt_of_le lt ga) (Nat.lt_irrefl _)
  have stat : ∀ {σ' : L2.St} {H' : Hp} {s' : Shared}, L2.Inv (gctx X s3 H3 ge (A.over (.compLoop (.GeneratorExp elt [⟨tg, iter, [], 0⟩] scope gpos) 0 (.ref it) .none ge) []) fp) [(a, oa)] σ' H' s' → (∀ b ∈ fp, H' b = none) →
      ∀ b ∈ fp, FpOk (gctx X s3 H3 ge (A.over (.compLoop (.GeneratorExp elt [⟨tg, iter, [], 0⟩] scope gpos) 0 (.ref it) .none ge) []) fp) [(a, oa)] H' b := fun {σ' H' s'} I' hn b hb =>
    ⟨hn b hb, (I'.ok.exf b hb).1, I'.ok.exfs b hb, .inl hb, fun x c e => (I'.ok.exf b hb).2 x c e, fun p hp => by
      have e : p = (a, oa) := List.mem_singleton.mp (show p ∈ [(a, oa)] from hp)
      rw [e]
      exact nfa b hb⟩
  intro m
  induction m using Nat.strongRecOn with
  | ind m ih =>
    intro n i s₀ s H hmn I st nf w
    show Seg _ A _ _ _ s₀ _ ((compTurn (.GeneratorExp elt [⟨tg, iter, [], 0⟩] scope gpos) 0 (.ref it) .none ge).onRaise (leaving ge)) [] s
    rw [compTurn_gen, Sem.onRaise_eq_wrap]
    refine seg_bind_wrap (wpAny_standAt ?_)
    rcases turn i m H w with ⟨stop, q⟩ | ⟨goes, Nx, hNx, step⟩
    · refine seg_bind_wrap (thnF (T.done (gctx X s3 H3 ge (A.over (.compLoop (.GeneratorExp elt [⟨tg, iter, [], 0⟩] scope gpos) 0 (.ref it) .none ge) []) fp) rfl rfl rfl rfl i _ s _ H (fun _ _ => False) I (stat I nf) st stop) fun r s6 ⟨hr, I6⟩ => ?_)
      subst hr
      exact seg_end (.ok .next) (.inl ⟨.inr rfl, H, back I6, q⟩)
    · refine seg_bind_wrap (thnF (T.item (gctx X s3 H3 ge (A.over (.compLoop (.GeneratorExp elt [⟨tg, iter, [], 0⟩] scope gpos) 0 (.ref it) .none ge) []) fp) rfl rfl rfl rfl i _ s _ H (fun _ _ => False) I (stat I nf) st goes) fun r s6 ⟨u, hr, h6⟩ => ?_)
      subst hr
      refine seg_bind_wrap (thnF h6 fun _ s7 ⟨x, H7, I7, r7, y7, st7, n7⟩ => ?_)
      have I7' := I7.pinned (stat I7 n7) (T.obj _ _ st7)
      refine seg_bind_wrap (thnF (pg.run _ s7 _ H7 x u _ I7' r7 (step x H7 y7)) fun _ s8 ⟨σ8, H8, I8, hw8, q8⟩ => ?_)
      refine seg_bind_wrap (by
        simp only [List.forIn_nil]
        refine wpAny_pure ?_
        have hco' : ge.scope.isCoroutine = false := by rw [egs]; exact hco
        have hy : ∀ v, yieldOut ge v = yieldValue v := fun v => by simp only [yieldOut, hco', Bool.false_eq_true, if_false]
        simp only [if_true, hy]
        rw [Sem.bind_eq_wrap', Sem.bind_eq_wrap', Sem.wrap_wrap, Sem.wrap_wrap]
        refine seg_wrap (thnF (pe.run _ s8 σ8 H8 _ I8 q8) fun z s9 ⟨yv, H9, I9, r9, b, eb, qgo, qno⟩ => ?_)
        subst eb
        cases r9
        obtain ⟨n', rfl⟩ : ∃ n', n = n' + 1 := ⟨n - 1, by omega⟩
        have pin' : ∀ b ∈ fp, ∀ o, s7.heap.get? b = some o → s9.heap.get? b = some o ∧ H9 b = none := fun b hb o e =>
          let z := I9.pin (b, o) (List.mem_append_right _ (List.mem_append_right _ (mem_pinsAt hb e)))
          ⟨z.1, z.2.1⟩
        have ea : s9.heap.get? a = some oa := (I9.pin (a, oa) (List.mem_append_right _ (List.mem_append_left _ (List.mem_singleton.mpr rfl)))).1
        refine seg_at (seg_yield rfl rfl rfl ⟨b, rfl, isg _ ea, I9.nolimit, I9.bare, fun e s'' aw => ?_, fun e => ⟨H9, back I9, qno e⟩⟩)
        obtain ⟨m', hm, w'⟩ := hNx H9 (qgo e)
        have hl : (wipe σ (own.map (·.2))).length = σ8.length := by rw [← hw8, wipe_length]
        have If := awake (((I9.unpinned (pins := [(a, oa)])).weak hl (fun j v e => by
          rw [← hw8] at e
          exact (wipe_some e).1))) aw
        refine seg_again rfl (ih m' hm n' (i + 1) s'' s'' H9 (by omega) If (T.keep _ _ _ st7 fun b hb o e => aw.2.2 b o (pin' b hb o e).1) (fun b hb => ?_) w')
        obtain ⟨o, e, _⟩ := T.obj _ _ st7 b hb
        exact (pin' b hb o e).2)
end

/-! ### the rules -/
/-- all(element for target in things) (go := true), any(..) (go := false); P: the table of the def's code object -/
def tQuant (go : Bool) (P : Addr) (wi : TI) (gT : TG) (te : TE) (vs : List Nat) : TE := fun σ H Q => wi σ H fun J H1 => TabG H1 P ∧ ∀ H2, Tabbed P H1 H2 → ∃ W : Nat → Nat → Hp → Prop, (∃ m, W 0 m H2) ∧ ∀ i m H, W i m H →
  (J.stop i H ∧ Q (.bl go) H) ∨ (J.go i H ∧ ∃ Nx : Hp → Prop, (∀ H', Nx H' → ∃ m', m' < m ∧ W (i + 1) m' H') ∧ ∀ x H', J.yld i H x H' → gT x (wipe σ vs) H' fun σ2 H2 => wipe σ2 vs = wipe σ vs ∧
    te σ2 H2 fun y H3 => ∃ b : Bool, y = .bl b ∧ (b = go → Nx H3) ∧ (b ≠ go → Q (.bl (!go)) H3))
/-- a generator that is ready to be asked -/
def ReadyQ (X : Cx) (pins : List (Addr × Obj)) (σ : L2.St) (go : Bool) (Qs Qe : Hp → Prop) (a : Addr) (s : Shared) : Prop :=
  ∃ (g n : Nat) (gs : GenState), s.heap.IsGen a g ∧ s.heap.NoLimit ∧ s.gens[g]? = some gs ∧ gs.Goes (model X.prog X.w) (B3 X.A) (GEp X pins σ Qe) (GYp X pins σ go Qs a g) n (.send .none) (s.setGen g .running)
section
variable {X : Cx} {pins : List (Addr × Obj)} {σ : L2.St} {H : Hp} {s : Shared}
theorem gen_Q {c P : Addr} {elt iter tg : Expr} {gpos : Pos} {scope : Scope} {own : List (Str × Nat)} {wi : TI} {gT : TG} {te : TE} {k : Nat} {go : Bool} {Qb : VK} {U : Value → Shared → Prop}
    (room : Room (k + 1) X.A) (hN : X.N.Nodup) (tb : TabB X.base X.mg c P) (code : X.env.code = .ref c) (ok : BlkOk X.N X.env.scope scope own) (nocell : ∀ y ∈ scope.names, y.2 ≠ .cell) (hco : scope.isCoroutine = false) (hdot : scope.names.lookup (".0" : Str) = some NameKind.local) (hi : PI X tg iter wi)
    (pg : ∀ (s : Shared) (H : Hp) (C : Addr) (cl : List (Str × Addr)) (cd : Value) (A : Around) (fp : List Addr), PG (gctx X s H (genEnv scope cl C cd builtinsNs X.env) A fp) tg gT)
    (pe : ∀ (s : Shared) (H : Hp) (C : Addr) (cl : List (Str × Addr)) (cd : Value) (A : Around) (fp : List Addr), Room k A → PE (gctx X s H (genEnv scope cl C cd builtinsNs X.env) A fp) elt te)
    (fold : ∀ v, genFold iter X.env v = pure v) (I : L2.Inv X pins σ H s) (h : tQuant go P wi gT te (own.map (·.2)) σ H Qb)
    (fin : ∀ a s', ReadyQ X pins σ go (Qb (.bl (!go))) (Qb (.bl go)) a s' → U (.ref a) s') :
    wpAny (model X.prog X.w) X.A (eval (.GeneratorExp elt [⟨tg, iter, [], 0⟩] scope gpos) X.env) U X.xe s := by
  have hfree : ∀ y ∈ scope.names, y.2 = .free → ∃ c, X.env.cells.lookup y.1 = some c := fun y hy e => by
    rcases ok.free y hy e with k | k
    · exact I.ok.has _ (.inl k)
    · exact I.ok.has _ (.inr k)
  refine wpAny_GeneratorExp_make hco (closure_ok hfree) nocell hdot ok.kind (by have := room.dp; omega) ?_ fold
  refine thn (hi.run pins s σ H _ I h) fun xv s1 hx => thn hx fun itv s2 hh2 => ?_
  obtain ⟨it, fp, tn, J, H2, e, I2, T, st2, f2, ⟨ps, tP, trip⟩, q⟩ := hh2
  subst e
  have atP : s2.heap.get? P = some { cls := .none, data := .fields ps } := I2.hok P _ tP
  have head := tb.code.keeps (h' := s2.heap) I2.bk
  have nfP : ∀ b ∈ fp, b ≠ P := fun b hb e => by
    have n := (f2 b hb).1
    rw [e, tP] at n
    cases n
  refine ⟨I2.nolimit, ?_⟩
  have after : ∀ (cd : Value) (h3 : Heap) (tk : Nat) (more : Array Value), Heap.ExtBut P s2.heap h3 → h3.get? P = some { cls := .none, data := .fields (ps ++ more) } → TriplesOk (ps ++ more).toList →
      wpAny (model X.prog X.w) X.A (builtinsFor X.env.globals X.env.builtins) (fun bi s₄ =>
        ∀ h', h'.Ns s₄.heap.objs.size (fun y => if y = ".0" then some (.ref it) else none) → Heap.SameBut s₄.heap.objs.size (s₄.heap.push { cls := .type "frame", data := .dict #[] }) h' →
          U (.ref h'.objs.size) { s₄ with
            gens := s₄.gens.push (.fresh (.compStart (.GeneratorExp elt [⟨tg, iter, [], 0⟩] scope gpos) 0 (.ref it) .none (genEnv scope (cloFrom X.env.cells scope.names []) s₄.heap.objs.size cd bi X.env))),
            toks := s₄.toks + 1 + 1 + 1,
            heap := h'.push { cls := .type "generator", data := .fields #[.int s₄.gens.size 0, .str "<genexpr>" (s₄.toks + 1), .str (X.env.qual ++ "<genexpr>") (s₄.toks + 1 + 1)] } }) X.xe { s2 with heap := h3, toks := tk } := by
    intro cd h3 tk more ext atP3 trip3
    obtain ⟨bm, ob, e1, e2, e3, e4, e5, e6, e7, e8⟩ := tb.bm
    have kept : ∀ b u, b ≠ P → s2.heap.get? b = some u → h3.get? b = some u := fun b u hb e => ext b u hb e
    have glob3 : h3.Ns X.env.globals X.mg := by
      rw [I2.ok.glob]
      exact (I2.mod.glob.keeps I2.bk).extBut ext tb.gP
    refine wpAny_builtinsFor (m := X.mg) glob3 e1 e2 (kept _ _ e4 (I2.bk _ _ e5)) e6 e7 e8 ?_
    have I3 := inv_tab (more := more) (h' := h3) (g' := s2.gens) (d' := s2.drawn) (t' := tk) I2 tP kept atP3 I2.bare
    intro h' hns hsb
    obtain ⟨W, ⟨m0, w0⟩, turn⟩ := q (upd H2 P (.tbl (ps ++ more))) ⟨⟨_, upd_same, trip3⟩, fun b hb => upd_ne hb⟩
    generalize eH3 : upd H2 P (.tbl (ps ++ more)) = H3 at I3 w0
    generalize es3 : ({ s2 with heap := h3, gens := s2.gens, drawn := s2.drawn, toks := tk } : Shared) = s3 at I3
    have s3h : s3.heap = h3 := by rw [← es3]
    have s3g : s3.gens = s2.gens := by rw [← es3]
    have es3' : ({ s2 with heap := h3, toks := tk } : Shared) = s3 := es3
    try rw [es3'] at hns
    try rw [es3'] at hsb
    try rw [es3']
    have n3 : ∀ b, b ≠ P → H2 b = none → H3 b = none := fun b hb e => by rw [← eH3, upd_ne hb]; exact e
    have f3 : ∀ b ∈ fp, FpOk X pins H3 b ∧ b < s3.heap.objs.size := fun b hb => by
      obtain ⟨o, eo, _⟩ := T.obj _ _ st2 b hb
      have lt : b < s3.heap.objs.size := by
        rw [s3h]
        exact Heap.lt_size (kept b o (nfP b hb) eo)
      exact ⟨⟨n3 b (nfP b hb) (f2 b hb).1, (f2 b hb).2⟩, lt⟩
    have st3 : tn 0 s3.heap := T.keep _ _ _ st2 fun b hb o e => by rw [s3h]; exact kept b o (nfP b hb) e
    have sz' : h'.objs.size = s3.heap.objs.size + 1 := by rw [hsb.1, Heap.size_push]
    have kp' : ∀ b o, s3.heap.get? b = some o → h'.get? b = some o := fun b o e => by
      rw [hsb.2 b (Nat.ne_of_lt (Heap.lt_size e))]
      exact Heap.get?_push_of_some _ e
    generalize eoa : ({ cls := .type "generator", data := .fields #[.int s3.gens.size 0, .str "<genexpr>" (s3.toks + 1), .str (X.env.qual ++ "<genexpr>") (s3.toks + 1 + 1)] } : Obj) = oa
    have isg : ∀ hp : Heap, hp.get? h'.objs.size = some oa → hp.IsGen h'.objs.size s3.gens.size := fun hp e => ⟨oa, _, _, e, by rw [← eoa], by rw [← eoa], by rw [← eoa]⟩
    have kp5 : ∀ b o, s3.heap.get? b = some o → (h'.push oa).get? b = some o := fun b o e => Heap.get?_push_of_some _ (kp' b o e)
    have ea5 : (h'.push oa).get? h'.objs.size = some oa := Heap.get?_push_size _ (by rw [← eoa] <;> rfl)
    have hns5 : (h'.push oa).Ns s3.heap.objs.size (fun y => if y = ".0" then some (.ref it) else none) := hns.push oa
    generalize ecl : cloFrom X.env.cells scope.names [] = cl
    have room3 : Room k ((B3 X.A).over (.compLoop (.GeneratorExp elt [⟨tg, iter, [], 0⟩] scope gpos) 0 (.ref it) .none (genEnv scope cl s3.heap.objs.size cd builtinsNs X.env)) []) := over_room room
    have start := fun (g5 : Array GenState) (t5 : Nat) (hg : AllBare g5) => gen_start (A := (B3 X.A).over (.compLoop (.GeneratorExp elt [⟨tg, iter, [], 0⟩] scope gpos) 0 (.ref it) .none (genEnv scope cl s3.heap.objs.size cd builtinsNs X.env)) []) (cd := cd) (h5 := h'.push oa) (g5 := g5) (t5 := t5) I3 ok nocell hN f3
      (over_hd room.hd) (by rw [ecl]; exact over_frames I3.ok.frames) kp5 hns5 hg
    rw [ecl] at start
    refine fin _ _ ⟨s3.gens.size, m0 + 1, .fresh (.compStart (.GeneratorExp elt [⟨tg, iter, [], 0⟩] scope gpos) 0 (.ref it) .none (genEnv scope cl s3.heap.objs.size cd builtinsNs X.env)), isg _ ea5, I3.nolimit.keeps kp5, by show (s3.gens.push _)[s3.gens.size]? = _; exact Array.getElem?_push_size .., rfl, ?_⟩
    have bare5 : AllBare (s3.gens.push (.fresh (.compStart (.GeneratorExp elt [⟨tg, iter, [], 0⟩] scope gpos) 0 (.ref it) .none (genEnv scope cl s3.heap.objs.size cd builtinsNs X.env)))) := I3.bare.push rfl
    generalize es5 : ({ s3 with gens := s3.gens.push (.fresh (.compStart (.GeneratorExp elt [⟨tg, iter, [], 0⟩] scope gpos) 0 (.ref it) .none (genEnv scope cl s3.heap.objs.size cd builtinsNs X.env))), toks := s3.toks + 1 + 1 + 1, heap := h'.push oa } : Shared) = s5
    have s5g : AllBare s5.gens := by rw [← es5]; exact bare5
    have I5 : L2.Inv (gctx X s3 H3 (genEnv scope cl s3.heap.objs.size cd builtinsNs X.env) ((B3 X.A).over (.compLoop (.GeneratorExp elt [⟨tg, iter, [], 0⟩] scope gpos) 0 (.ref it) .none (genEnv scope cl s3.heap.objs.size cd builtinsNs X.env)) []) fp) [(h'.objs.size, oa)] (wipe σ (own.map (·.2))) H3 (s5.setGen s3.gens.size .running) := by
      have I5 := start (s5.setGen s3.gens.size .running).gens (s3.toks + 1 + 1 + 1) (allBare_setGen s5g rfl)
      rw [← es5] at I5 ⊢
      refine I5.pins_of fun p hp => ?_
      have e : p = (h'.objs.size, oa) := List.mem_singleton.mp hp
      rw [e]
      refine ⟨ea5, I3.hok.fresh (by rw [sz']; exact Nat.le_succ _), ?_, fun hm => ?_, fun v z => ?_⟩
      · show h'.objs.size ≠ s3.heap.objs.size
        rw [sz']
        exact Nat.succ_ne_self _
      · obtain ⟨_, o', e', _⟩ := I3.stack.mem hm
        have lt := Heap.lt_size e'
        have lt : h'.objs.size < s3.heap.objs.size := lt
        omega
      · have z : oa.data = .cell v := z
        rw [← eoa] at z
        cases z
    have st5 : tn 0 (s5.setGen s3.gens.size .running).heap := T.keep _ _ _ st3 fun b hb o e => by
      rw [← es5]
      exact kp5 b o e
    have loop := fun s₀ => gen_loop (own := own) I3 f3 hco rfl rfl (by rw [sz']; exact Nat.le_succ _) isg T (pg s3 H3 s3.heap.objs.size cl cd _ fp) (pe s3 H3 s3.heap.objs.size cl cd _ fp room3) turn m0 (m0 + 1) 0 s₀ _ H3 (Nat.lt_succ_self _) I5 st5 (fun b hb => (f3 b hb).1.1) w0
    show Seg _ _ _ _ _ _ _ ((compStart (.GeneratorExp elt [⟨tg, iter, [], 0⟩] scope gpos) 0 (.ref it) .none (genEnv scope cl s3.heap.objs.size cd builtinsNs X.env)).onRaise (leaving _)) [] _
    unfold compStart
    rw [Sem.onRaise_eq_wrap]
    show Seg _ _ _ _ _ _ _ ((ask >>= _).wrap _ _ _ _) [] _
    refine seg_bind_wrap (wpAny_askSetting ?_)
    split
    · exact seg_again rfl (loop _)
    · first
        | exact seg_bind_wrap (wpAny_rule (seg_bind_wrap (wpAny_standAt (seg_bind_wrap (T.self _ 0 _ _ _ st5 (seg_again rfl (loop _)))))))
        | (refine seg_bind_wrap (wpAny_rule ?_)
           show Seg _ _ _ _ _ _ _ ((standAt iter.pos >>= _).wrap _ _ _ _) [] _
           exact seg_bind_wrap (wpAny_standAt (seg_bind_wrap (T.self _ 0 _ _ _ st5 (seg_again rfl (loop _))))))
  cases hf : codeAmong gpos ps.toList with
  | none =>
    refine wpAny_genexprCodeX code (head.code atP trip) (head.tab atP) hf fun c' h' tk hx hge hlt hco' _ htab' _ => ?_
    obtain ⟨o1, vs, f1, tf, fl, tg, inF, tx, tt, op, _, _, _, _, _, _, _, _, _, htr, _⟩ := hco'
    exact after _ h' tk _ hx htab'.2 htr
  | some cv =>
    refine wpAny_genexprCode_hit code (head.code atP trip) hf ?_
    have z := after cv s2.heap s2.toks #[] (Heap.ExtBut.refl _ _) (by rw [Array.append_empty]; exact atP) (by rw [Array.append_empty]; exact trip)
    exact z

/-- all(element for target in things) -/
theorem pe_allQ {c P : Addr} {elt iter tg : Expr} {p pos gpos : Pos} {scope : Scope} {own : List (Str × Nat)} {wi : TI} {gT : TG} {te : TE} {k : Nat}
    (room : Room (k + 1) X.A) (hN : X.N.Nodup) (hg : Gl X "all") (hm : X.mg "all" = none) (tb : TabB X.base X.mg c P) (code : X.env.code = .ref c) (hi : PI X tg iter wi) (ok : BlkOk X.N X.env.scope scope own) (nocell : (scope.names.all fun y => decide (y.2 ≠ .cell)) = true) (hco : scope.isCoroutine = false) (hdot : scope.names.lookup (".0" : Str) = some NameKind.local)
    (pg : ∀ (s : Shared) (H : Hp) (C : Addr) (cl : List (Str × Addr)) (cd : Value) (A : Around) (fp : List Addr), PG (gctx X s H (genEnv scope cl C cd builtinsNs X.env) A fp) tg gT)
    (pe : ∀ (s : Shared) (H : Hp) (C : Addr) (cl : List (Str × Addr)) (cd : Value) (A : Around) (fp : List Addr), Room k A → PE (gctx X s H (genEnv scope cl C cd builtinsNs X.env) A fp) elt te)
    (fold : ∀ v, genFold iter X.env v = pure v := by intro _; rfl)
    (he : starEach [.GeneratorExp elt [⟨tg, iter, [], 0⟩] scope gpos] X.env = (false, eval (.GeneratorExp elt [⟨tg, iter, [], 0⟩] scope gpos) X.env) :: starEach [] X.env := by rfl) :
    PE X (.Call (.Name "all" p) [.GeneratorExp elt [⟨tg, iter, [], 0⟩] scope gpos] [] pos) (tQuant true P wi gT te (own.map (·.2))) := by
  refine ⟨fun pins s σ H Q I h => ?_⟩
  refine wpAny_Call_Name_kw (ld_blt (u := .builtin "all") I hg hm (by decide +kernel) ?_)
  refine PyProof.Rows.callWith_builtin1 ?_ he (by rfl)
  rw [he]
  show wpAny _ _ (spliced ((false, eval (.GeneratorExp elt [⟨tg, iter, [], 0⟩] scope gpos) X.env) :: backTo pos (starEach [] X.env))) _ _ s
  refine Calls.spliced_cons (gen_Q room hN tb code ok (fun y hy => of_decide_eq_true (List.all_eq_true.mp nocell y hy)) hco hdot hi pg pe fold I h fun a s5 hR => ?_)
  obtain ⟨g, n, gs, hgen, hl, hgs, hgo⟩ := hR
  refine Calls.spliced_nil ?_
  refine call_function_tree F.kind_all F.plain_all F.entry_all (F.args_all1 _) ?_
  unfold Builtin.«all»
  refine wpAny_bind (m := oneArg "all" _) (wpAny_pure ?_)
  refine wpAny_bind (wpAny_pyIter_gen hgen ?_)
  refine wpAny_pure ⟨plainId_quiet F.plain_all_loop _, all_loopQ (A := X.A) room.hd (by have := room.dp; show X.A.depth < _; omega) (fun s' hs => ?_) (fun s' hs => ?_) n s5 gs hgen hl hgs hgo⟩
  · obtain ⟨H', I', q⟩ := hs
    exact ⟨.bl true, H', I', rfl, q⟩
  · obtain ⟨H', I', q⟩ := hs
    exact ⟨.bl false, H', I', rfl, q⟩
/-- any(element for target in things) -/
theorem pe_anyQ {c P : Addr} {elt iter tg : Expr} {p pos gpos : Pos} {scope : Scope} {own : List (Str × Nat)} {wi : TI} {gT : TG} {te : TE} {k : Nat}
    (room : Room (k + 1) X.A) (hN : X.N.Nodup) (hg : Gl X "any") (hm : X.mg "any" = none) (tb : TabB X.base X.mg c P) (code : X.env.code = .ref c) (hi : PI X tg iter wi) (ok : BlkOk X.N X.env.scope scope own) (nocell : (scope.names.all fun y => decide (y.2 ≠ .cell)) = true) (hco : scope.isCoroutine = false) (hdot : scope.names.lookup (".0" : Str) = some NameKind.local)
    (pg : ∀ (s : Shared) (H : Hp) (C : Addr) (cl : List (Str × Addr)) (cd : Value) (A : Around) (fp : List Addr), PG (gctx X s H (genEnv scope cl C cd builtinsNs X.env) A fp) tg gT)
    (pe : ∀ (s : Shared) (H : Hp) (C : Addr) (cl : List (Str × Addr)) (cd : Value) (A : Around) (fp : List Addr), Room k A → PE (gctx X s H (genEnv scope cl C cd builtinsNs X.env) A fp) elt te)
    (fold : ∀ v, genFold iter X.env v = pure v := by intro _; rfl)
    (he : starEach [.GeneratorExp elt [⟨tg, iter, [], 0⟩] scope gpos] X.env = (false, eval (.GeneratorExp elt [⟨tg, iter, [], 0⟩] scope gpos) X.env) :: starEach [] X.env := by rfl) :
    PE X (.Call (.Name "any" p) [.GeneratorExp elt [⟨tg, iter, [], 0⟩] scope gpos] [] pos) (tQuant false P wi gT te (own.map (·.2))) := by
  refine ⟨fun pins s σ H Q I h => ?_⟩
  refine wpAny_Call_Name_kw (ld_blt (u := .builtin "any") I hg hm (by decide +kernel) ?_)
  refine PyProof.Rows.callWith_builtin1 ?_ he (by rfl)
  rw [he]
  show wpAny _ _ (spliced ((false, eval (.GeneratorExp elt [⟨tg, iter, [], 0⟩] scope gpos) X.env) :: backTo pos (starEach [] X.env))) _ _ s
  refine Calls.spliced_cons (gen_Q room hN tb code ok (fun y hy => of_decide_eq_true (List.all_eq_true.mp nocell y hy)) hco hdot hi pg pe fold I h fun a s5 hR => ?_)
  obtain ⟨g, n, gs, hgen, hl, hgs, hgo⟩ := hR
  refine Calls.spliced_nil ?_
  refine call_function_tree F.kind_any F.plain_any F.entry_any (F.args_any1 _) ?_
  unfold Builtin.«any»
  refine wpAny_bind (m := oneArg "any" _) (wpAny_pure ?_)
  refine wpAny_bind (wpAny_pyIter_gen hgen ?_)
  refine wpAny_pure ⟨plainId_quiet F.plain_any_loop _, any_loopQ (A := X.A) room.hd (by have := room.dp; show X.A.depth < _; omega) (fun s' hs => ?_) (fun s' hs => ?_) n s5 gs hgen hl hgs hgo⟩
  · obtain ⟨H', I', q⟩ := hs
    exact ⟨.bl false, H', I', rfl, q⟩
  · obtain ⟨H', I', q⟩ := hs
    exact ⟨.bl true, H', I', rfl, q⟩
end
end Gq

set_option Elab.async false
set_option linter.all false
set_option maxRecDepth 100000
set_option maxHeartbeats 2000000
/-! all(..) over a text's signs, over a tuple's things: by an invariant of the heap. -/
namespace Gq
open PySem PySem.Spec PyProof.Rows L2 GxR Gx
theorem all_at {α : Type} {l : List α} {pb : α → Bool} {i : Nat} {x : α} (h : l[i]? = some x) : (l.take (i + 1)).all pb = ((l.take i).all pb && pb x) := by
  rw [List.take_add_one, h, List.all_append] <;> simp
theorem all_no {α : Type} {l : List α} {pb : α → Bool} {x : α} (h : x ∈ l) (hp : pb x = false) : l.all pb = false := by
  cases e : l.all pb with
  | false => rfl
  | true =>
    rw [List.all_eq_true.mp e x h] at hp
    cases hp
theorem q_str {z : Str} {gT : TG} {te : TE} {vs : List Nat} {σ : L2.St} {H2 : Hp} {Q : VK} {pb : Nat → Bool} (Iv : Hp → Prop) (h0 : Iv H2)
    (hs : ∀ c H (R : VK), c ∈ z.cps.toList → Iv H → (∀ H3, Iv H3 → R (.bl (pb c)) H3) → gT (.str ⟨#[c]⟩) (wipe σ vs) H fun σ2 H' => wipe σ2 vs = wipe σ vs ∧ te σ2 H' R) (hQ : ∀ H, Iv H → Q (.bl (z.cps.toList.all pb)) H) :
    ∃ W : Nat → Nat → Hp → Prop, (∃ m, W 0 m H2) ∧ ∀ i m H, W i m H → ((Its z).stop i H ∧ Q (.bl true) H) ∨ ((Its z).go i H ∧ ∃ Nx : Hp → Prop, (∀ H', Nx H' → ∃ m', m' < m ∧ W (i + 1) m' H') ∧ ∀ x H', (Its z).yld i H x H' → gT x (wipe σ vs) H' fun σ2 H2 => wipe σ2 vs = wipe σ vs ∧
      te σ2 H2 fun y H3 => ∃ b : Bool, y = .bl b ∧ (b = true → Nx H3) ∧ (b ≠ true → Q (.bl (!true)) H3)) := by
  have el : z.cps.toList.length = z.cps.size := Array.length_toList
  refine ⟨fun i m H => m = z.cps.size - i ∧ i ≤ z.cps.size ∧ Iv H ∧ (z.cps.toList.take i).all pb = true, ⟨_, rfl, Nat.zero_le _, h0, rfl⟩, ?_⟩
  rintro i m H ⟨rfl, hi, iv, hp⟩
  rcases Nat.lt_or_ge i z.cps.size with lt | ge
  · refine .inr ⟨lt, fun H' => Iv H' ∧ (z.cps.toList.take (i + 1)).all pb = true, fun H' q => ⟨_, Nat.sub_succ_lt_self _ _ lt, rfl, lt, q⟩, ?_⟩
    rintro x H' ⟨rfl, c, ec, rfl⟩
    have ec' : z.cps.toList[i]? = some c := by rw [Array.getElem?_toList]; exact ec
    have mc := List.mem_of_getElem? ec'
    refine hs c _ _ mc iv fun H3 iv3 => ⟨pb c, rfl, fun e => ⟨iv3, by rw [all_at ec', hp, e] <;> rfl⟩, fun e => ?_⟩
    have e' : pb c = false := by cases q : pb c with
      | false => rfl
      | true => exact absurd q e
    have q := hQ H3 iv3
    rw [all_no mc e'] at q
    exact q
  · obtain rfl : i = z.cps.size := Nat.le_antisymm hi ge
    refine .inl ⟨Nat.le_refl _, ?_⟩
    have q := hQ H iv
    rw [← el, List.take_length] at hp
    rw [hp] at q
    exact q
theorem q_tup {K : PySem.W.Frag} {a : Addr} {xs : List V} {gT : TG} {te : TE} {vs : List Nat} {σ : L2.St} {H2 : Hp} {Q : VK} {pb : V → Bool} (Iv : Hp → Prop) (h0 : Iv H2) (hl : ∀ H, Iv H → SqT K H a xs)
    (hs : ∀ x H (R : VK), x ∈ xs → Iv H → (∀ H3, Iv H3 → R (.bl (pb x)) H3) → gT x (wipe σ vs) H fun σ2 H' => wipe σ2 vs = wipe σ vs ∧ te σ2 H' R) (hQ : ∀ H, Iv H → Q (.bl (xs.all pb)) H) :
    ∃ W : Nat → Nat → Hp → Prop, (∃ m, W 0 m H2) ∧ ∀ i m H, W i m H → ((Itt K a).stop i H ∧ Q (.bl true) H) ∨ ((Itt K a).go i H ∧ ∃ Nx : Hp → Prop, (∀ H', Nx H' → ∃ m', m' < m ∧ W (i + 1) m' H') ∧ ∀ x H', (Itt K a).yld i H x H' → gT x (wipe σ vs) H' fun σ2 H2 => wipe σ2 vs = wipe σ vs ∧
      te σ2 H2 fun y H3 => ∃ b : Bool, y = .bl b ∧ (b = true → Nx H3) ∧ (b ≠ true → Q (.bl (!true)) H3)) := by
  refine ⟨fun i m H => m = xs.length - i ∧ i ≤ xs.length ∧ Iv H ∧ (xs.take i).all pb = true, ⟨_, rfl, Nat.zero_le _, h0, rfl⟩, ?_⟩
  rintro i m H ⟨rfl, hi, iv, hp⟩
  rcases Nat.lt_or_ge i xs.length with lt | ge
  · refine .inr ⟨?_, fun H' => Iv H' ∧ (xs.take (i + 1)).all pb = true, fun H' q => ⟨_, Nat.sub_succ_lt_self _ _ lt, rfl, lt, q⟩, ?_⟩
    · exact ⟨xs, xs[i], hl H iv, List.getElem?_eq_getElem lt⟩
    · rintro x H' ⟨rfl, y⟩
      have ex := y xs (hl _ iv)
      have mx := List.mem_of_getElem? ex
      refine hs x _ _ mx iv fun H3 iv3 => ⟨pb x, rfl, fun e => ⟨iv3, by rw [all_at ex, hp, e] <;> rfl⟩, fun e => ?_⟩
      have e' : pb x = false := by cases q : pb x with
        | false => rfl
        | true => exact absurd q e
      have q := hQ H3 iv3
      rw [all_no mx e'] at q
      exact q
  · obtain rfl : i = xs.length := Nat.le_antisymm hi ge
    refine .inl ⟨?_, ?_⟩
    · exact ⟨xs, hl H iv, Nat.le_refl _⟩
    have q := hQ H iv
    rw [List.take_length] at hp
    rw [hp] at q
    exact q
end Gq

set_option Elab.async false
set_option linter.all false
set_option maxRecDepth 100000
set_option maxHeartbeats 2000000
/-! Errors that are caught and kept behind the suite: isinstance of them. -/
namespace Gc
open PySem PySem.Spec PyProof.Rows L2 GxR Gx
/-- a caught error, kept as a value -/
def ExK (cls : Value) (d : Option Addr) (a : Addr) : HO := .ext fun h => ∃ (oe : Obj) (vs : Array Value), h.get? a = some oe ∧ Zc cls d oe ∧ oe.data = .fields vs
section
variable {X : Cx} {pins : List (Addr × Obj)} {σ : L2.St} {H : Hp} {s : Shared}
/-- an object that the def's entry didn't know may be tracked from now on -/
theorem track {a : Addr} {oe : Obj} {vs : Array Value} {cls : Value} {d : Option Addr} (I : Inv X pins σ H s) (ho : s.heap.get? a = some oe) (hz : Zc cls d oe) (hd : oe.data = .fields vs) (hn : H a = none) (h0 : X.s_0.heap.get? a = none)
    (nL : a ≠ X.env.locals) (nP : ∀ p ∈ X.pn ++ pins, p.1 ≠ a) : Inv X pins σ (upd H a (ExK cls d a)) s := by
  have other : ∀ {b : Addr} {u : HO}, H b = some u → upd H a (ExK cls d a) b = some u := fun {b u} e => by rw [upd_ne (ne_of_none e hn)]; exact e
  have away : ∀ {b : Addr}, b ≠ a → H b = none → upd H a (ExK cls d a) b = none := fun {b} n e => by rw [upd_ne n]; exact e
  refine ⟨I.ok, I.os, I.bare, ⟨I.base.keep, I.base.slot, fun b o e n hx => ?_, I.base.there, fun b xs e => other (I.base.tups b xs e), fun b o u e => other (I.base.frzs b o u e), fun b ps e => ?_⟩, I.loc, I.cell, away nL.symm I.free, fun x c e => ?_, fun p hp => ?_, fun b u e => ?_, I.len⟩
  · refine away (fun z => ?_) (I.base.free b o e n hx)
    rw [z, h0] at e
    cases e
  · obtain ⟨m, q⟩ := I.base.tbls b ps e
    exact ⟨m, other q⟩
  · refine away (fun z => ?_) (I.freeC x c e)
    obtain ⟨v, o, q, dc⟩ := I.cell x c e
    rw [z, ho] at q
    cases q
    rw [hd] at dc
    cases dc
  · obtain ⟨e, n, r⟩ := I.pin p hp
    exact ⟨e, away (nP p hp) n, r⟩
  · by_cases hb : b = a
    · rw [hb, upd_same] at e
      cases e
      rw [hb]
      exact ⟨⟨oe, vs, ho, hz, hd⟩, ⟨oe, ho⟩, fun h1 h2 ⟨o, v, q, r⟩ k => ⟨o, v, k o q, r⟩⟩
    · rw [upd_ne hb] at e
      exact (I.hok b u e).stay (fun c v _ q => q) (fun c q => other q) fun c xs q => other q
/-- what 'except x as n' wishes, the error kept -/
def wHold (K : PySem.W.Frag) (c : Value) (i : Nat) (ts : Addr → Value → Option Addr → TS) (Wout : WX) (D : Ends) : WX := fun cls d σ H =>
  ∃ b, PySem.W.exmOne K cls c = some b ∧ (b = true → ∀ a, H a = none → ts a cls d { nx := fun σ' H' => D.nx (σ'.set i none) (upd H' a (ExK cls d a)), rt := D.rt, bk := fun σ' H' => D.bk (σ'.set i none) (upd H' a (ExK cls d a)), ct := fun σ' H' => D.ct (σ'.set i none) (upd H' a (ExK cls d a)) } (σ.set i (some (.ref a))) H) ∧
    (b = false → Wout cls d σ H)
end
section
variable {X : Cx} {x n : Str} {c : Value} {i : Nat} {body suite : List Stmt} {b₀ : Stmt} {np pos pos' : Pos} {tb : WX → TS} {ts : Addr → Value → Option Addr → TS} {Wout : WX}
theorem ps_try_hold (hex : X.ex = []) (hs : X.stack = X.env :: X.outer) (hf : X.env.frame = some X.env.locals) (hN : X.N.Nodup) (hi : X.N[i]? = some n) (hln : X.env.kindOf n = some .local) (hc : Names X x c) (tk : Takes X Wout)
    (hb : ∀ (W : WX) (pn : List (Addr × Obj)) (xe : Value → Shared → Prop), Takes (X.tr pn xe) W → PassesOwn (model X.prog X.w) X.A X.env xe → PSs (X.tr pn xe) body (tb W))
    (hsu : ∀ (a : Addr) (oe : Obj) (cls : Value) (d : Option Addr) (pn : List (Addr × Obj)), Zc cls d oe → (∃ vs, oe.data = .fields vs) → PSs (X.suite a ((a, oe) :: pn)) (b₀ :: suite) (ts a cls d)) :
    PS X (.Try body [.ExceptHandler (some (.Name x np)) (some n) (b₀ :: suite) pos'] [] [] pos) (fun D σ H => tb (wHold X.K c i ts Wout D) D σ H) := by
  refine ⟨fun pins s σ H D I h => wpAny_Try_except (wpAny_mono ((hb (wHold X.K c i ts Wout D) (X.pn ++ pins) (fun e s₁ => wpAny (model X.prog X.w) X.A (noteFrame e X.env) (fun _ s₂ => wpAny (model X.prog X.w) X.A (setFlight e none) (fun _ s₃ =>
    wpAny (model X.prog X.w) X.A (handleBy e X.env [.ExceptHandler (some (.Name x np)) (some n) (b₀ :: suite) pos']) (SP X pins D) X.xe s₃) X.xe s₂) X.xe s₁) (fun u s' z => ?_) PassesOwn.looking).run [] s σ H D (I.toTry _) h) (fun f s1 q => ?_) fun _ _ z => z)⟩
  · have ok := I.ok
    have hfr : X.A.frames = some (X.env :: X.outer) := by rw [ok.frames, hs]
    obtain ⟨a, B, sI, pins', σ', H', cls, d, rfl, J', nb, up, sky, na, os, ag, b, hb1, hyes, hno⟩ := z
    have J : Inv X pins σ' H' sI := J'.ofTry ok
    rw [show (X.tr (X.pn ++ pins) _).stack = X.env :: X.outer from hs] at sky
    show wpAny (model X.prog X.w) X.A (noteFrame (.ref a) X.env) _ _ _
    refine Sky.land Zc.steady hfr hf sky fun h3 fl up3 => ?_
    have J3 : Inv X pins σ' H' { s' with heap := h3 } := J.landed nb fl.1 (up.trans up3) os ag
    obtain ⟨oe, vs, he, hz, hd⟩ := fl.there
    have nfr : a ∉ frs (X.env :: X.outer) := fun hm => by
      obtain ⟨_, o, e, hnf⟩ := fl.2.2.1.mem hm
      cases he.symm.trans e
      exact hnf _ hd
    have nL : a ≠ X.env.locals := fun z => nfr (List.mem_filterMap.mpr ⟨X.env, List.mem_cons_self, by rw [hf, z]⟩)
    have nF : a ∉ X.fs := fun hm => by
      obtain ⟨e, he, q⟩ := List.mem_filterMap.mp hm
      exact nfr (List.mem_filterMap.mpr ⟨e, List.mem_cons_of_mem _ he, q⟩)
    -- the error's object is new since the def's entry
    have nI : sI.heap.get? a = none := by
      cases q : sI.heap.get? a with
      | none => rfl
      | some o =>
        have z := nb a o q (by show a ∉ frs X.stack; rw [hs]; exact nfr)
        rw [fl.2.1] at z
        cases z
    have n0 : X.s_0.heap.get? a = none := by
      cases q : X.s_0.heap.get? a with
      | none => rfl
      | some o =>
        obtain ⟨o', z⟩ := J.base.there a o q (by rw [hex]; exact fun z => nomatch z)
        cases nI.symm.trans z
    have nP : ∀ p ∈ X.pn ++ pins, p.1 ≠ a := fun p hp z => by
      have e := (J.pin p hp).1
      rw [z, nI] at e
      cases e
    have S3 := J3.suite he hd na nL nF
    refine wpAny_handleBy_cons (codeAny_handlers_test ?_) (by intro q; cases q)
    have LT : PySem.W.Looks (model X.prog X.w) h3 (typeOf (.ref a)) cls := fun A Q E s k q => wpAny_typeOf_ref (k _ _ he) (by rw [hz.1]; exact q)
    have LM := PySem.W.exm_one (M := model X.prog X.w) J3.kIn LT hb1
    have test : ∀ {Q : Value → Shared → Prop} {E : Value → Shared → Prop}, Q c { s' with heap := h3 } → wpAny (model X.prog X.w) (X.A.mark (some (.ref a))) (eval (.Name x np) X.env) Q E { s' with heap := h3 } := fun {Q E} q => by
      obtain ⟨hg, hdbg, hm | ⟨hm, hv, hnn⟩⟩ := hc
      · exact ld_glob (X := X.suite a ((a, oe) :: (X.pn ++ pins))) S3 hg hm q hdbg
      · exact ld_blt (X := X.suite a ((a, oe) :: (X.pn ++ pins))) S3 hg hm hv q hnn hdbg
    refine test (LM.here ?_)
    cases b with
    | false =>
      -- it goes on
      refine wpAny_handleBy_nil ?_
      obtain ⟨_, _, _, o1, w1, T, _, _, e1, _, d1, t1, _⟩ := id fl
      unfold PySem.passOn
      refine wpAny_bind (wpAny_field e1 d1 t1 ?_)
      rw [if_neg (show ¬ ((Value.ref T == Value.none) = true) from by simp)]
      have fin : wpAny (model X.prog X.w) X.A (setFlight (.ref a) X.env.frame) (fun _ s4 => wpAny (model X.prog X.w) X.A (throw (.ref a) : Sem Flow) (SP X pins D) X.xe s4) X.xe { s' with heap := h3 } := by
        rw [hf]
        exact HandSPX.setFlight_upZ fl fun h4 hh up4 => wpAny_throw (tk _ _ ⟨a, B, sI, pins, σ', H', cls, d, rfl, J, nb, (up.trans up3).trans up4, .inr (.inr (by rw [hs]; exact hh)), na, os, ag, hno rfl⟩)
      first
        | exact wpAny_bind (wpAny_pure (wpAny_bind fin))
        | exact wpAny_bind fin
    | true =>
      -- it is held in the suite, and tracked behind it
      refine codeAny_handlers_suite_as (HandSPX.lands_againZ fl fun h4 fl4 up4 => ?_)
      have J4 : Inv X pins σ' H' { s' with heap := h4 } := J.landed nb fl4.1 ((up.trans up3).trans up4) os ag
      obtain ⟨o4, v4, e4, z4, d4⟩ := fl4.there
      refine store_ok (X := X.suite a ((a, o4) :: (X.pn ++ pins))) (v := .ref a) (J4.suite e4 d4 na nL nF) hN hi (.inl hln) rfl (fun s5 S5 => ?_) (.inr hln)
      refine wpAny_mono ((hsu a o4 cls d (X.pn ++ pins) z4 ⟨_, d4⟩).run [] s5 _ H' _ S5 (hyes rfl a na)) (fun f s6 hsp => ?_) (fun _ _ z => False.elim z)
      have done : ∀ {σ6 : L2.St} {H6 : Hp} {Q : Shared → Prop}, Inv (X.suite a ((a, o4) :: (X.pn ++ pins))) [] σ6 H6 s6 → (∀ s7, Inv X pins (σ6.set i none) H6 s7 → Inv X pins (σ6.set i none) (upd H6 a (ExK cls d a)) s7 → Q s7) →
          wpAny (model X.prog X.w) X.A (do bindName X.env n .none; unbindBehindTheSuite X.env n pos') (fun _ s7 => Q s7) X.xe s6 := fun {σ6 H6 Q} S6 hq =>
        gone_ok (X := X.suite a ((a, o4) :: (X.pn ++ pins))) S6 hN hi hln fun s7 S7 => by
          obtain ⟨e7, n7, _⟩ := S7.pin (a, o4) (List.mem_append_left _ List.mem_cons_self)
          have J7 : Inv X pins (σ6.set i none) H6 s7 := S7.unsuite ok
          exact hq s7 J7 (track J7 e7 z4 d4 n7 n0 nL nP)
      cases f with
      | next =>
        obtain ⟨σ6, H6, S6, q6⟩ := hsp
        exact done S6 fun s7 _ J7 => ⟨_, _, J7, q6⟩
      | brk =>
        obtain ⟨σ6, H6, S6, q6⟩ := hsp
        exact done S6 fun s7 _ J7 => ⟨_, _, J7, q6⟩
      | cont =>
        obtain ⟨σ6, H6, S6, q6⟩ := hsp
        exact done S6 fun s7 _ J7 => ⟨_, _, J7, q6⟩
      | ret u =>
        obtain ⟨v6, σ6, H6, S6, r6, q6⟩ := hsp
        exact done S6 fun s7 J7 _ => ⟨_, _, _, J7, r6, q6⟩
  · cases f with
    | next =>
      obtain ⟨σ', H', J', q⟩ := q
      exact wpAny_execs_nil ⟨σ', H', J'.ofTry I.ok, q⟩
    | brk =>
      obtain ⟨σ', H', J', q⟩ := q
      exact ⟨σ', H', J'.ofTry I.ok, q⟩
    | cont =>
      obtain ⟨σ', H', J', q⟩ := q
      exact ⟨σ', H', J'.ofTry I.ok, q⟩
    | ret u =>
      obtain ⟨v, σ', H', J', r, q⟩ := q
      exact ⟨v, σ', H', J'.ofTry I.ok, r, q⟩
end
/-- isinstance of a kept error -/
def rIsK (K : PySem.W.Frag) : List V → Hp → VK → Prop := fun xs H Q => ∃ (a D : Addr) (c : V) (cv : Value) (b : Bool), xs = [.ref a, c] ∧ H a = some (ExK (.ref D) none a) ∧ ExcC K D ∧ (∀ u, RelV c u → u = cv) ∧ PySem.W.kitOne K (.ref D) cv = some b ∧ Q (.bl b) H
theorem call_isK {X : Cx} : CallR X (.builtin "isinstance") (rIsK X.K) := by
  intro pins s σ H xs us Q I r h
  obtain ⟨a, D, c, cv, b, rfl, ha, C, hcv, e, q⟩ := h
  obtain ⟨u1, u2, rfl, r1, r2⟩ := vals2 r
  cases (show u1 = Value.ref a from r1)
  cases hcv _ r2
  obtain ⟨⟨oe, vs, ho, hz, hd⟩, _⟩ := I.hok a _ ha
  obtain ⟨oc, od, oda, osl⟩ := oe
  obtain ⟨h1, h2⟩ := hz
  dsimp only at h1 h2 hd
  subst h1 h2 hd
  exact PySem.W.kia_one (PySem.W.handS_kitx_exc C.hg C.hk C.hs C.hd C.ha C.hn C.ht C.hm) I.kIn ⟨ho, rfl, rfl, trivial⟩ e (fun z => nomatch z) fun tk => ⟨.bl b, H, I.kept (t' := tk) fun _ _ z => z, rfl, q⟩
/-! ### defs that raise, by their names -/
structure DnS (P : Program) (w : World) (K : PySem.W.Frag) (mg : Str → Option Value) (base : Heap) (k : Nat) (x : Str) (ps : List Str) (sp : Sp) : Prop where
  ex : ∃ (f : Addr) (fd : FuncData), mg x = some (.ref f) ∧ PySem.W.keepIn K (.ref f) = true ∧ Binds K fd ps [] ∧ FnOk P w K mg base (L2.CX P w) k f fd ps sp
section
variable {X : Cx} {k : Nat} {x : Str} {ps : List Str} {sp : Sp} {p pos : Pos} {e : Expr} {es : List Expr} {t : TA}
theorem pe_dnS {E : L2.St → XK} (D : DnS X.prog X.w X.K X.mg X.base k x ps sp) (hr : Room k X.A) (hg : Gl X x) (hx : ∀ σ, PassesAt (L2.CX X.prog X.w) X σ (E σ)) (ha : PA X (e :: es) t) (hdb : (x == ("__debug__" : Str)) = false := by decide)
    (he : starEach (e :: es) X.env = (false, eval e X.env) :: starEach es X.env := by rfl) (hpl : (backTo pos (starEach es X.env)).any (·.1) = false := by rfl) :
    PE X (.Call (.Name x p) (e :: es) [] pos) (tCallS sp E t) := by
  obtain ⟨f, fd, hm, hk, hb, F⟩ := D.ex
  exact pe_callS F hr hg hm hk hb hx ha hdb he hpl
end
section
variable {P : Program} {w : World} {K : PySem.W.Frag} {mg : Str → Option Value} {base : Heap} {x qual : Str} {params : Arguments} {body : List Stmt} {scope : Scope} {dvs : List V} {kws : List (Str × V)} {N ps : List Str} {k : Nat} {sp : Sp}
/-- a def that may raise -/
theorem okS {f : Addr} {fd : FuncData} (F : FunD K x qual params body scope dvs kws f fd) (S : FnScope N ps scope) (len : ∀ vs H Q E, sp vs H Q E → vs.length = ps.length)
    (hbody : ∀ (c : Value) (A : Around) (outer : List Env) (s : Shared) (H : Hp) (vs : List V) (Q : VK) (E : XK), Room k (A.deeper (envOfC qual scope s.heap.objs.size f c)) → sp vs H Q E →
      ∃ t, PSs (cxOf (L2.CX P w) P w K mg base N qual scope f c A outer s H E) body t ∧ t { nx := fun _ H' => Q .non H', rt := Q } (start N vs) H) : FnOk P w K mg base (L2.CX P w) (k + 1) f fd ps sp := by
  obtain ⟨oc, od, dV, kV, doc, pm, an, cdv, ct, osl, rfl, lk, hcd, _, _⟩ := F.ex
  exact fn_of lk hcd S len fun A outer s H vs Q E hr hsp => hbody _ A outer s H vs Q E hr hsp
end
/-! ### xs.count(y), flat items -/
theorem count_vals {y : V} : ∀ {ys : List V} {us : List Value}, Vals ys us → ys.all flatV = true → us.countP (eqU y) = ys.countP fun z => eqV z y
  | [], _, .nil, _ => rfl
  | z :: r, _, .cons h t, f => by
    rw [List.all_cons, Bool.and_eq_true] at f
    rw [List.countP_cons, List.countP_cons, count_vals t f.2, eqU_of h f.1]
def rCntV (K : PySem.W.Frag) : V → List V → Hp → VK → Prop := fun x xs H Q => ∃ (a : Addr) (ys : List V) (y : V), x = .ref a ∧ xs = [y] ∧ SqL K H a ys ∧ flatV y = true ∧ ys.all flatV = true ∧ Q (.int (ys.countP fun z => eqV z y : Nat)) H
theorem mt_lcountV {X : Cx} : MtR X "list.count" (rCntV X.K) := by
  intro pins s σ H x xs v us Q I rx rxs h
  obtain ⟨a, ys, y, rfl, rfl, hs, fy, fys, q⟩ := h
  cases (show v = Value.ref a from rx)
  obtain ⟨u, rfl, ru⟩ := rxs.one
  obtain ⟨its, rv, ⟨⟨cls, dd, data, sl⟩, n, ho, hc, hdn, hd⟩, hlen⟩ := I.list hs
  simp only at hc hd
  subst hc hd
  refine call_meets PySem.F.slot_list_count ⟨_, ho, rfl⟩ PySem.F.entry_list_count (PySem.F.args_list_count_2 _ _)
    (SeqAt.list_countAt a its.toArray n dd sl u (eqU y)) ⟨ho, fun u' hu' => mem_eqAt ru fy rv fys u' (by simpa using hu'), ?_⟩
  have ec : its.toArray.toList.countP (eqU y) = ys.countP fun z => eqV z y := by
    rw [List.toList_toArray]
    exact count_vals rv fys
  refine ⟨.int (ys.countP fun z => eqV z y : Nat), H, I.tok _, ⟨s.toks, ?_⟩, q⟩
  show Value.int ((its.toArray.toList.countP (eqU y) : Nat) : Int) s.toks = _
  rw [ec]
/-! ### facts of an error's class -/
/-- what the head tells of the class at C -/
def excB (K : PySem.W.Frag) (C : Addr) : Bool := PySem.W.excIn K C He.veBase "ValueError.__new__" && (PySem.W.keepIn K (.ref C) && (decide (PySem.W.subIn K (.ref C) (.type "BaseException") = some true) && (decide (PySem.W.typeIn K (.ref C) = some (.type "type")) &&
  (decide (PySem.W.findIn K (.ref C) "__getattribute__" = some (some (.builtin "BaseException.__getattribute__"))) && (decide (PySem.W.findIn K (.ref C) "__getattr__" = some none) && (PySem.W.hasDictIn K C && (decide (PySem.W.findIn K (.ref C) "__class__" = some (some (.builtin "object.__class__"))) &&
  (decide (PySem.W.specialIn K (.builtin "object.__class__") "__get__" = some (some (.builtin "getset_descriptor.__get__"))) && (decide (PySem.W.takesIn K (.builtin "object.__class__") = some true) && decide (PySem.W.mroIn K C (.type "object") = some true))))))))))
structure ExF (K : PySem.W.Frag) (C : Addr) : Prop where
  x : PySem.W.excIn K C He.veBase "ValueError.__new__" = true
  k : PySem.W.keepIn K (.ref C) = true
  b : PySem.W.subIn K (.ref C) (.type "BaseException") = some true
  t : PySem.W.typeIn K (.ref C) = some (.type "type")
  c : ExcC K C
theorem excB_ok {K : PySem.W.Frag} {C : Addr} (h : excB K C = true) : ExF K C := by
  unfold excB at h
  simp only [Bool.and_eq_true, decide_eq_true_eq] at h
  obtain ⟨h1, h2, h3, h4, h5, h6, h7, h8, h9, h10, h11⟩ := h
  exact ⟨h1, h2, h3, h4, ⟨h5, h6, h3, h7, h8, h9, h10, h11⟩⟩
/-- of an error of the class at C: which of the classes named it is -/
def kitB (K : PySem.W.Frag) (C : Addr) (one : Str) (xs : List Str) : Bool := xs.all fun x => decide (PySem.W.kitOne K (.ref C) (.ref (He.ga K x)) = some (decide (x = one)))
theorem kitB_ok {K : PySem.W.Frag} {C : Addr} {one : Str} {xs : List Str} (h : kitB K C one xs = true) {x : Str} (hx : x ∈ xs) : PySem.W.kitOne K (.ref C) (.ref (He.ga K x)) = some (decide (x = one)) := of_decide_eq_true (List.all_eq_true.mp h x hx)
/-! ### new objects, their heaps not spelt out -/
theorem lst_any {H : Hp} {xs : List V} {Q : VK} (hz : xs.length ≤ sizeLine) (q : ∀ p H', H' p = some (.lst xs) → Same H H' → H p = none → Q (.ref p) H') : xs.length ≤ sizeLine ∧ ∀ p, H p = none → Q (.ref p) (upd H p (.lst xs)) :=
  ⟨hz, fun p hp => q p _ upd_same (same_new hp) hp⟩
theorem tup_any {H : Hp} {xs : List V} {Q : VK} (hz : xs.length ≤ sizeLine) (q : ∀ p H', H' p = some (.tup xs) → Same H H' → H p = none → Q (.ref p) H') : xs.length ≤ sizeLine ∧ ∀ p, H p = none → Q (.ref p) (upd H p (.tup xs)) :=
  ⟨hz, fun p hp => q p _ upd_same (same_new hp) hp⟩
theorem catL_any {H : Hp} {l b : Addr} {xs ys : List V} {Q : VK} (hl : H l = some (.lst xs)) (hb : H b = some (.lst ys)) (hz : xs.length + ys.length ≤ sizeLine) (q : ∀ p H', H' p = some (.lst (xs ++ ys)) → Same H H' → H p = none → Q (.ref p) H') : rCat (.ref l) (.ref b) H Q :=
  ⟨l, b, xs, ys, rfl, rfl, hl, hb, hz, fun p hp => q p _ upd_same (same_new hp) hp⟩
end Gc

set_option Elab.async false
set_option linter.all false
set_option maxRecDepth 100000
set_option maxHeartbeats 2000000
/-! Data of tuples alone: masters as the laws draw them, told by records. -/
namespace Gd
open PySem PySem.Spec PyProof.Rows L2 GxR Gx
mutual
/-- no list, no dict in it: nothing in it can change -/
def noL : PyData → Bool
  | .tuple ds => noLAll ds
  | .list _ => false
  | .dict _ => false
  | _ => true
def noLAll : List PyData → Bool
  | [] => true
  | d :: r => noL d && noLAll r
end
mutual
theorem dpT_keep {K : PySem.W.Frag} {H H' : Hp} (kt : ∀ a xs, SqT K H a xs → SqT K H' a xs) : ∀ {v : V} {d : PyData}, Dp K H v d → noL d = true → Dp K H' v d
  | _, _, .non, _ => .non
  | _, _, .bl b, _ => .bl b
  | _, _, .int i, _ => .int i
  | _, _, .str x, _ => .str x
  | _, _, .lst s h, n => by
    simp only [noL] at n
    cases n
  | _, _, .tup s h, n => by
    simp only [noL] at n
    exact .tup (kt _ _ s) (dpTAll_keep kt h n)
theorem dpTAll_keep {K : PySem.W.Frag} {H H' : Hp} (kt : ∀ a xs, SqT K H a xs → SqT K H' a xs) : ∀ {vs : List V} {ds : List PyData}, DpAll K H vs ds → noLAll ds = true → DpAll K H' vs ds
  | _, _, .nil, _ => .nil
  | _, _, .cons h t, n => by
    simp only [noLAll, Bool.and_eq_true] at n
    exact .cons (dpT_keep kt h n.1) (dpTAll_keep kt t n.2)
end
theorem noL_all : ∀ {ds : List PyData}, (∀ d ∈ ds, noL d = true) → noLAll ds = true
  | [], _ => by simp only [noLAll]
  | d :: r, h => by simp only [noLAll, h d List.mem_cons_self, noL_all fun x hx => h x (List.mem_cons_of_mem _ hx), Bool.and_self]
section
variable {K : PySem.W.Frag} {H : Hp}
theorem dp_tup {v : V} {ds : List PyData} (h : Dp K H v (.tuple ds)) : ∃ a xs, v = .ref a ∧ SqT K H a xs ∧ DpAll K H xs ds := by
  cases h with
  | tup s h => exact ⟨_, _, rfl, s, h⟩
theorem dp_str {v : V} {z : Str} (h : Dp K H v (.str z)) : v = .str z := by
  cases h
  rfl
theorem dp_int {v : V} {i : Int} (h : Dp K H v (.int i)) : v = .int i := by
  cases h
  rfl
theorem dp_non {v : V} (h : Dp K H v .none) : v = .non := by
  cases h
  rfl
theorem dpAll_len : ∀ {xs : List V} {ds : List PyData}, DpAll K H xs ds → xs.length = ds.length
  | _, _, .nil => rfl
  | _, _, .cons _ t => congrArg (· + 1) (dpAll_len t)
theorem dpAll_get : ∀ {xs : List V} {ds : List PyData} {i : Nat} {d : PyData}, DpAll K H xs ds → ds[i]? = some d → ∃ x, xs[i]? = some x ∧ Dp K H x d
  | _, _, 0, _, .cons h _, e => ⟨_, rfl, by cases e; exact h⟩
  | _, _, i + 1, _, .cons _ t, e => dpAll_get (i := i) t e
  | _, _, _, _, .nil, e => by cases e
theorem dpAll_of : ∀ {xs : List V} {ds : List PyData} {i : Nat} {x : V}, DpAll K H xs ds → xs[i]? = some x → ∃ d, ds[i]? = some d ∧ Dp K H x d
  | _, _, 0, _, .cons h _, e => ⟨_, rfl, by cases e; exact h⟩
  | _, _, i + 1, _, .cons _ t, e => dpAll_of (i := i) t e
  | _, _, _, _, .nil, e => by cases e
theorem dpAll_app : ∀ {xs ys : List V} {ds es : List PyData}, DpAll K H xs ds → DpAll K H ys es → DpAll K H (xs ++ ys) (ds ++ es)
  | _, _, _, _, .nil, h => h
  | _, _, _, _, .cons h t, h2 => .cons h (dpAll_app t h2)
theorem dpAll_take : ∀ {xs : List V} {ds : List PyData} (n : Nat), DpAll K H xs ds → DpAll K H (xs.take n) (ds.take n)
  | _, _, 0, _ => .nil
  | _, _, _ + 1, .nil => .nil
  | _, _, n + 1, .cons h t => .cons h (dpAll_take n t)
theorem dpAll_drop : ∀ {xs : List V} {ds : List PyData} (n : Nat), DpAll K H xs ds → DpAll K H (xs.drop n) (ds.drop n)
  | _, _, 0, h => h
  | _, _, _ + 1, .nil => .nil
  | _, _, n + 1, .cons _ t => dpAll_drop n t
theorem dpAll_strs : ∀ l : List Str, DpAll K H (l.map V.str) (l.map PyData.str)
  | [] => .nil
  | z :: r => .cons (.str z) (dpAll_strs r)
end
/-! ### records -/
structure PlM where
  name : Str
  sets : List (Str × PyData)
  text : Option (List Str)
def PlM.d (p : PlM) : PyData := .tuple [.str p.name, .tuple (p.sets.map fun s => .tuple [.str s.1, s.2]), match p.text with
  | none => .none
  | some l => .tuple (l.map .str)]
structure MaM where
  name : Str
  over : Option Str
  own : List PlM
def MaM.d (m : MaM) : PyData := .tuple [.str m.name, match m.over with
  | none => .none
  | some z => .str z, .tuple (m.own.map PlM.d)]
/-- worths are whole numbers or texts -/
def flatW : PyData → Bool
  | .int _ => true
  | .str _ => true
  | _ => false
theorem flat_noL {d : PyData} (h : flatW d = true) : noL d = true := by
  cases d with
  | int i => simp only [noL]
  | str z => simp only [noL]
  | _ => cases h
theorem PlM.noL {p : PlM} (h : ∀ s ∈ p.sets, flatW s.2 = true) : Gd.noL p.d = true := by
  unfold PlM.d
  have h1 : noLAll (p.sets.map fun s => PyData.tuple [.str s.1, s.2]) = true := noL_all fun d hd => by
    obtain ⟨s, hs, rfl⟩ := List.mem_map.mp hd
    simp only [Gd.noL, noLAll, flat_noL (h s hs), Bool.and_self]
  have h2 : ∀ l : List Str, noLAll (l.map PyData.str) = true := fun l => noL_all fun d hd => by
    obtain ⟨z, _, rfl⟩ := List.mem_map.mp hd
    simp only [Gd.noL]
  cases p.text with
  | none => simp only [Gd.noL, noLAll, h1, Bool.and_self]
  | some l => simp only [Gd.noL, noLAll, h1, h2 l, Bool.and_self]
theorem MaM.noL {m : MaM} (h : ∀ p ∈ m.own, ∀ s ∈ p.sets, flatW s.2 = true) : Gd.noL m.d = true := by
  unfold MaM.d
  have h1 : noLAll (m.own.map PlM.d) = true := noL_all fun d hd => by
    obtain ⟨p, hp, rfl⟩ := List.mem_map.mp hd
    exact PlM.noL (h p hp)
  cases m.over with
  | none => simp only [Gd.noL, noLAll, h1, Bool.and_self]
  | some z => simp only [Gd.noL, noLAll, h1, Bool.and_self]
/-! ### traits and worths -/
def TRS : List Str := ["left", "top", "wide", "high", "size", "ink"]
def bnd (z : Str) : Int × Int := if z = "left" then (-999, 999) else if z = "top" then (-999, 999) else if z = "size" then (1, 99) else (1, 999)
/-- a right worth of the trait z -/
def wOk (z : Str) : PyData → Bool
  | .int i => !decide (z = "ink") && (decide ((bnd z).1 ≤ i) && decide (i ≤ (bnd z).2))
  | .str s => decide (z = "ink") && nameB s
  | _ => false
theorem wOk_flat {z : Str} {d : PyData} (h : wOk z d = true) : flatW d = true := by
  cases d with
  | int i => rfl
  | str s => rfl
  | _ => cases h
theorem wOk_int {z : Str} {i : Int} (n : z ≠ "ink") (h1 : (bnd z).1 ≤ i) (h2 : i ≤ (bnd z).2) : wOk z (.int i) = true := by
  show (!decide (z = "ink") && (decide ((bnd z).1 ≤ i) && decide (i ≤ (bnd z).2))) = true
  rw [decide_eq_false n, decide_eq_true h1, decide_eq_true h2] <;> rfl
/-! ### lines -/
def gSign (c : Nat) : Bool := !decide (c < 32) && (!decide (126 < c) && (!decide (c = 37) && !decide (c = 92)))
/-- signs that may stand in a line -/
def okS (z : Str) : Prop := ∀ c ∈ z.cps.toList, gSign c = true
instance (z : Str) : Decidable (okS z) := inferInstanceAs (Decidable (∀ c ∈ z.cps.toList, gSign c = true))
theorem okS_add {a b : Str} (ha : okS a) (hb : okS b) : okS (a ++ b) := fun c hc => by
  have hc : c ∈ (a.cps ++ b.cps).toList := hc
  rw [Array.toList_append] at hc
  exact (List.mem_append.mp hc).elim (ha c) (hb c)
theorem okS_cut {z : Str} {lo hi : Option Int} (h : okS z) : okS (cutS z lo hi) := fun c hc => by
  have hc : c ∈ ((z.cps.toList.drop (HT.sIx z.length 0 lo)).take (HT.sIx z.length z.length hi - HT.sIx z.length 0 lo)).toArray.toList := hc
  rw [List.toList_toArray] at hc
  exact h c (List.mem_of_mem_drop (List.mem_of_mem_take hc))
theorem okS_joinS {sep : Str} (hs : okS sep) : ∀ {ys : List Str}, (∀ y ∈ ys, okS y) → okS (Str.join sep ys)
  | [], _ => fun c hc => nomatch hc
  | [y], h => h y List.mem_cons_self
  | y :: z :: r, h => okS_add (okS_add (h y List.mem_cons_self) hs) (okS_joinS hs fun x hx => h x (List.mem_cons_of_mem _ hx))
theorem okS_join {sep : Str} (hs : okS sep) {ys : List Str} (h : ∀ y ∈ ys, okS y) : okS (Txt.join sep ys) := by
  rw [show Txt.join sep ys = Str.join sep ys from StrLaws.glued_eq_join sep ys]
  exact okS_joinS hs h
theorem sum_le {m : Nat} : ∀ {ys : List Str}, (∀ y ∈ ys, y.length ≤ m) → (ys.map (·.length)).sum ≤ ys.length * m
  | [], _ => Nat.zero_le _
  | y :: r, h => by
    have ih := sum_le (ys := r) fun z hz => h z (List.mem_cons_of_mem _ hz)
    have h1 := h y List.mem_cons_self
    rw [List.map_cons, List.sum_cons, List.length_cons, Nat.succ_mul]
    omega
theorem cut_le {z : Str} {k : Nat} : (cutS z none (some (k : Int))).length ≤ k := by
  show (((z.cps.toList.drop (HT.sIx z.length 0 none)).take (HT.sIx z.length z.length (some (k : Int)) - HT.sIx z.length 0 none)).toArray).size ≤ k
  rw [List.size_toArray, List.length_take, show HT.sIx z.length z.length (some (k : Int)) = min k z.length from HT.sIx_nat z.length z.length k]
  omega
/-! ### tuples stay -/
section
variable {K : PySem.W.Frag} {H H' : Hp}
theorem sqT_by {a : Addr} {xs : List V} (h : SqT K H a xs) (k1 : ∀ o, H a = some (.tup o) → H' a = some (.tup o)) (k2 : ∀ o u, H a = some (.frz o u) → H' a = some (.frz o u)) : SqT K H' a xs := by
  rcases h with (h | ⟨o, h⟩) | h
  · exact .inl (.inl (k1 _ h))
  · exact .inl (.inr ⟨o, k2 _ _ h⟩)
  · exact .inr h
theorem sqT_same {a : Addr} {xs : List V} (s : Same H H') (h : SqT K H a xs) : SqT K H' a xs := sqT_by h (fun _ e => s _ _ e) fun _ _ e => s _ _ e
theorem sqT_kp {p a : Addr} {xs ys : List V} (hp : H p = some (.lst ys)) (s : Kp p H H') (h : SqT K H a xs) : SqT K H' a xs :=
  sqT_by h (fun _ e => s _ _ e (ne_of e hp fun q => nomatch q)) fun o u e => s _ _ e (ne_of e hp fun q => nomatch q)
/-- tuples that stand at H stand at H' -/
def KT (K : PySem.W.Frag) (H H' : Hp) : Prop := ∀ a xs, SqT K H a xs → SqT K H' a xs
theorem KT.refl : KT K H H := fun _ _ h => h
theorem KT.trans {H2 : Hp} (a : KT K H H') (b : KT K H' H2) : KT K H H2 := fun _ _ h => b _ _ (a _ _ h)
theorem KT.same (s : Same H H') : KT K H H' := fun _ _ h => sqT_same s h
theorem KT.kp {p : Addr} {ys : List V} (hp : H p = some (.lst ys)) (s : Kp p H H') : KT K H H' := fun _ _ h => sqT_kp hp s h
theorem KT.pen {p L : Addr} {ns : List Int} {n : Nat} (hP : Pen H p L ns n) (s : Kp p H H') : KT K H H' := by
  obtain ⟨a, r, hp, _⟩ := hP.at_
  exact KT.kp hp s
theorem KT.put {D : Addr} {ys zs : List V} (hD : H D = some (.lst ys)) : KT K H (upd H D (.lst zs)) := KT.kp hD fun b o e n => (upd_ne n).trans e
end
/-! ### right records -/
def goodL (ls : List Str) : Prop := ls.length ≤ 12 ∧ ∀ z ∈ ls, z.length ≤ 60 ∧ okS z
structure OkPl (p : PlM) : Prop where
  right : ∀ s ∈ p.sets, s.1 ∈ TRS ∧ wOk s.1 s.2 = true
  once : (p.sets.map (·.1)).Nodup
  text : ∀ ls, p.text = some ls → goodL ls
theorem OkPl.noL {p : PlM} (h : OkPl p) : Gd.noL p.d = true := PlM.noL fun s hs => wOk_flat (h.right s hs).2
theorem take_more {α : Type} {l : List α} {i : Nat} {x : α} (h : l[i]? = some x) : l.take (i + 1) = l.take i ++ [x] := by
  rw [List.take_add_one, h] <;> rfl
end Gd

set_option Elab.async false
set_option linter.all false
set_option maxRecDepth 100000
set_option maxHeartbeats 2000000
/-! Names as the laws draw them: right ones, each once. -/
namespace Gn
open PySem PySem.Spec PyProof.Rows L2 GxR Gx Gd
def BEG : List Str := ["", "", "a", "z9", "title", "m0m0m0", "b"]
/-- what the last two letters of a name tell -/
def code2 (z : Str) : Nat := match z.cps.toList.reverse with
  | y :: x :: _ => (x - 97) * 26 + (y - 97)
  | _ => 0
theorem toL (b : Str) (x y : Nat) : ((b ++ ⟨#[x]⟩) ++ ⟨#[y]⟩ : Str).cps.toList = b.cps.toList ++ [x] ++ [y] := by
  show ((b.cps ++ #[x]) ++ #[y]).toList = _
  rw [Array.toList_append, Array.toList_append]
theorem code2_of (b : Str) {m : Nat} (h : m < 676) : code2 ((b ++ ⟨#[97 + m / 26]⟩) ++ ⟨#[97 + m % 26]⟩) = m := by
  unfold code2
  rw [toL, List.reverse_append, List.reverse_append]
  show (97 + m / 26 - 97) * 26 + (97 + m % 26 - 97) = m
  omega
theorem let_at (k : Fin 26) : LETS.cps.toList[k.val]? = some (97 + k.val) := by
  revert k
  decide +kernel
theorem let_is (k : Fin 26) : isLet (97 + k.val) = true := by
  revert k
  decide +kernel
theorem nameB_by {z : Str} {c : Nat} {r : List Nat} (e : z.cps.toList = c :: r) (l : (c :: r).length ≤ 8) (h1 : isLet c = true) (h2 : (c :: r).all (fun c => isLet c || isFig c) = true) : nameB z = true := by
  have hl := cps_len z
  rw [e] at hl
  unfold nameB
  rw [e, decide_eq_true (show 1 ≤ (z.length : Int) by rw [← hl, List.length_cons]; omega), decide_eq_true (show (z.length : Int) ≤ 8 by omega), h2]
  show (true && (true && (isLet c && true))) = true
  rw [h1] <;> rfl
theorem name_of {b : Str} (hb : b ∈ BEG) {x y : Nat} (hx : isLet x = true) (hy : isLet y = true) : nameB ((b ++ ⟨#[x]⟩) ++ ⟨#[y]⟩) = true := by
  have e := toL b x y
  have tail : ∀ l : List Nat, l.all (fun c => isLet c || isFig c) = true → (l ++ [x] ++ [y]).all (fun c => isLet c || isFig c) = true := fun l hl => by
    rw [List.all_append, List.all_append, hl, List.all_cons, List.all_cons, hx, hy] <;> rfl
  simp only [BEG, List.mem_cons, List.not_mem_nil, or_false] at hb
  rcases hb with rfl | rfl | rfl | rfl | rfl | rfl | rfl
  · exact nameB_by (c := x) (r := [y]) e (by simp) hx (tail [] rfl)
  · exact nameB_by (c := x) (r := [y]) e (by simp) hx (tail [] rfl)
  · exact nameB_by (c := 97) (r := [x, y]) e (by simp) (by decide +kernel) (tail [97] (by decide +kernel))
  · exact nameB_by (c := 122) (r := [57, x, y]) e (by simp) (by decide +kernel) (tail [122, 57] (by decide +kernel))
  · exact nameB_by (c := 116) (r := [105, 116, 108, 101, x, y]) e (by simp) (by decide +kernel) (tail [116, 105, 116, 108, 101] (by decide +kernel))
  · exact nameB_by (c := 109) (r := [48, 109, 48, 109, 48, x, y]) e (by simp) (by decide +kernel) (tail [109, 48, 109, 48, 109, 48] (by decide +kernel))
  · exact nameB_by (c := 98) (r := [x, y]) e (by simp) (by decide +kernel) (tail [98] (by decide +kernel))
theorem one_of {x : Nat} (hx : isLet x = true) : nameB ⟨#[x]⟩ = true := nameB_by (c := x) (r := []) rfl (by simp) hx (by rw [List.all_cons, hx] <;> rfl)
/-- the steps from name to name -/
def STP : List Nat := [1, 3, 5, 7, 9, 11, 15, 17]
theorem step_ok : ∀ a ∈ STP, ∀ b : Fin 13, ∀ d : Fin 40, d.val = 0 ∨ (d.val * (a + 26 * b.val)) % 676 ≠ 0 := by decide +kernel
def nth (c s j : Nat) : Nat := (c + j * s) % 676
theorem nth_inj {a b c : Nat} (ha : a ∈ STP) (hb : b < 13) {i j : Nat} (hi : i < j) (hj : j < 40) : nth c (a + 26 * b) i ≠ nth c (a + 26 * b) j := by
  intro e
  unfold nth at e
  have h := step_ok a ha ⟨b, hb⟩ ⟨j - i, by omega⟩
  have hd : j * (a + 26 * b) = i * (a + 26 * b) + (j - i) * (a + 26 * b) := by
    rw [← Nat.add_mul]
    congr 1
    omega
  generalize (j - i) * (a + 26 * b) = D at hd h
  generalize i * (a + 26 * b) = A at hd e
  rw [hd] at e
  rcases h with h | h
  · have h : j - i = 0 := h
    omega
  · have h : D % 676 ≠ 0 := h
    omega
theorem nth_nodup {a b c : Nat} (ha : a ∈ STP) (hb : b < 13) : ∀ {n : Nat}, n ≤ 40 → ((List.range n).map (nth c (a + 26 * b))).Nodup
  | 0, _ => List.nodup_nil
  | n + 1, h => by
    rw [List.range_succ, List.map_append]
    refine List.nodup_append.mpr ⟨nth_nodup ha hb (by omega), by simp, ?_⟩
    intro x hx y hy
    obtain ⟨i, hi, rfl⟩ := List.mem_map.mp hx
    rw [List.map_cons, List.map_nil, List.mem_singleton] at hy
    rw [hy]
    exact nth_inj ha hb (List.mem_range.mp hi) (by omega)
theorem nodup_set {α : Type} : ∀ {l : List α} {j : Nat} {x : α}, l.Nodup → x ∉ l → (l.set j x).Nodup
  | [], _, _, _, _ => List.nodup_nil
  | a :: r, 0, x, h, n => List.nodup_cons.mpr ⟨fun m => n (List.mem_cons_of_mem _ m), (List.nodup_cons.mp h).2⟩
  | a :: r, j + 1, x, h, n => by
    obtain ⟨h1, h2⟩ := List.nodup_cons.mp h
    refine List.nodup_cons.mpr ⟨fun m => ?_, nodup_set h2 fun m => n (List.mem_cons_of_mem _ m)⟩
    rcases List.mem_or_eq_of_mem_set m with m | e
    · exact h1 m
    · exact n (by rw [← e]; exact List.mem_cons_self)
theorem nodup_of_map {α β : Type} {f : α → β} : ∀ {l : List α}, (l.map f).Nodup → l.Nodup
  | [], _ => List.nodup_nil
  | a :: r, h => by
    obtain ⟨h1, h2⟩ := List.nodup_cons.mp h
    exact List.nodup_cons.mpr ⟨fun m => h1 (List.mem_map_of_mem m), nodup_of_map h2⟩
theorem ixN_at {n j : Nat} (hj : j < n) : ixN n (j : Int) = some j := by
  unfold ixN
  rw [if_pos (by omega), if_pos (by omega)]
  simp
/-! ### right masters -/
structure OkMa (m : MaM) : Prop where
  name : nameB m.name = true
  own : ∀ p ∈ m.own, OkPl p ∧ nameB p.name = true
  once : (m.own.map (·.name)).Nodup
  few : m.own.length ≤ 8
theorem OkMa.noL {m : MaM} (h : OkMa m) : Gd.noL m.d = true := MaM.noL fun p hp s hs => wOk_flat ((h.own p hp).1.right s hs).2
/-- masters of names all unlike, what is over each stands among them, no ring: each name has a height -/
structure OkMs (ms : List MaM) : Prop where
  all : ∀ m ∈ ms, OkMa m
  once : (ms.map (·.name)).Nodup
  over : ∃ f : Str → Nat, (∀ z, f z ≤ 12) ∧ ∀ m ∈ ms, ∀ z, m.over = some z → (∃ o ∈ ms, o.name = z) ∧ f z < f m.name
  few : ms.length ≤ 12
  some : 0 < ms.length
theorem OkMs.noL {ms : List MaM} (h : OkMs ms) : Gd.noL (.tuple (ms.map MaM.d)) = true := by
  simp only [Gd.noL]
  refine noL_all fun d hd => ?_
  obtain ⟨m, hm, rfl⟩ := List.mem_map.mp hd
  exact (h.all m hm).noL
/-! ### an item put in -/
def ins {α : Type} (l : List α) (i : Nat) (x : α) : List α := l.take i ++ x :: l.drop i
theorem ins_map {α β : Type} {f : α → β} {l : List α} {i : Nat} {x : α} : (ins l i x).map f = ins (l.map f) i (f x) := by
  unfold ins
  rw [List.map_append, List.map_cons, List.map_take, List.map_drop]
theorem ins_mem {α : Type} {l : List α} {i : Nat} {x y : α} : y ∈ ins l i x ↔ y = x ∨ y ∈ l := by
  unfold ins
  rw [List.mem_append, List.mem_cons]
  constructor
  · rintro (h | h | h)
    · exact .inr (List.mem_of_mem_take h)
    · exact .inl h
    · exact .inr (List.mem_of_mem_drop h)
  · rintro (h | h)
    · exact .inr (.inl h)
    · have e := List.take_append_drop i l
      rw [← e] at h
      rcases List.mem_append.mp h with h | h
      · exact .inl h
      · exact .inr (.inr h)
theorem ins_len {α : Type} {l : List α} {i : Nat} {x : α} : (ins l i x).length = l.length + 1 := by
  have e := congrArg List.length (List.take_append_drop i l)
  rw [List.length_append] at e
  unfold ins
  rw [List.length_append, List.length_cons]
  omega
theorem ins_perm {α : Type} {l : List α} {i : Nat} {x : α} : (ins l i x).Perm (x :: l) := by
  unfold ins
  refine (List.perm_middle).trans ?_
  rw [List.take_append_drop]
theorem ins_nodup {α : Type} {l : List α} {i : Nat} {x : α} (h : l.Nodup) (n : x ∉ l) : (ins l i x).Nodup := ins_perm.nodup_iff.mpr (List.nodup_cons.mpr ⟨n, h⟩)
theorem ins_dp {K : PySem.W.Frag} {H : Hp} {xs : List V} {ds : List PyData} {v : V} {d : PyData} (i : Nat) (h : DpAll K H xs ds) (hv : Dp K H v d) : DpAll K H (ins xs i v) (ins ds i d) := by
  unfold ins
  exact dpAll_app (dpAll_take i h) (.cons hv (dpAll_drop i h))
/-! ### where a name stands -/
def pos (z : Str) : List Str → Nat
  | [] => 0
  | y :: r => if y = z then 0 else pos z r + 1
theorem pos_get : ∀ {l : List Str} {j : Nat} {z : Str}, l.Nodup → l[j]? = some z → pos z l = j
  | [], _, _, _, e => by cases e
  | y :: r, 0, z, _, e => by
    cases e
    exact if_pos rfl
  | y :: r, j + 1, z, h, e => by
    obtain ⟨h1, h2⟩ := List.nodup_cons.mp h
    have e : r[j]? = some z := e
    have n : y ≠ z := fun q => h1 (by rw [q]; exact List.mem_of_getElem? e)
    show (if y = z then 0 else pos z r + 1) = j + 1
    rw [if_neg n, pos_get h2 e]
theorem pos_le (z : Str) : ∀ l : List Str, pos z l ≤ l.length
  | [] => Nat.le_refl _
  | y :: r => by
    show (if y = z then 0 else pos z r + 1) ≤ r.length + 1
    have := pos_le z r
    split <;> omega
theorem not_take {α : Type} : ∀ {l : List α} {j : Nat} {z : α}, l.Nodup → l[j]? = some z → z ∉ l.take j
  | [], _, _, _, e => by cases e
  | y :: r, 0, z, _, _ => fun m => nomatch m
  | y :: r, j + 1, z, h, e => fun m => by
    obtain ⟨h1, h2⟩ := List.nodup_cons.mp h
    have e : r[j]? = some z := e
    rcases List.mem_cons.mp (show z ∈ y :: r.take j from m) with q | q
    · exact h1 (by rw [← q]; exact List.mem_of_getElem? e)
    · exact not_take h2 e q
theorem ins_eq {α : Type} {l : List α} {i : Nat} {x : α} : l.take i ++ [x] ++ l.drop i = ins l i x := by
  unfold ins
  rw [List.append_assoc] <;> rfl
end Gn

set_option Elab.async false
set_option linter.all false
set_option maxRecDepth 100000
set_option maxHeartbeats 2000000
/-! Masters: chains, places; tables that grow. -/
namespace Gm
open PySem PySem.Spec PyProof.Rows L2 GxR Gx Gd Gn
/-- two ways that meet again -/
theorem seq_via {a b : TS} {D : Ends} {σ : L2.St} {H : Hp} (Mid : L2.St → Hp → Prop) (h1 : ∀ nx' : L2.St → Hp → Prop, (∀ σ' H', Mid σ' H' → nx' σ' H') → a { D with nx := nx' } σ H) (h2 : ∀ σ' H', Mid σ' H' → b D σ' H') : tSeq a b D σ H := h1 (b D) h2
def setD (s : Str × PyData) : PyData := .tuple [.str s.1, s.2]
def ovD : Option Str → V
  | none => .non
  | some z => .str z
def textD : Option (List Str) → PyData
  | none => .none
  | some l => .tuple (l.map .str)
theorem own_noL {own : List PlM} (h : ∀ q ∈ own, OkPl q ∧ nameB q.name = true) : noLAll (own.map PlM.d) = true := noL_all fun d hd => by
  obtain ⟨m, hm, rfl⟩ := List.mem_map.mp hd
  exact (h m hm).1.noL
theorem mas_noL {ms : List MaM} (h : ∀ q ∈ ms, OkMa q) : noLAll (ms.map MaM.d) = true := noL_all fun d hd => by
  obtain ⟨m, hm, rfl⟩ := List.mem_map.mp hd
  exact (h m hm).noL
/-- each over stands ahead of its master in zs -/
def Ahead (zs : List Str) (i : Nat) (ms : List MaM) : Prop := ∀ m ∈ ms, ∀ z, m.over = some z → ∃ j k, zs[j]? = some z ∧ zs[k]? = some m.name ∧ j < k ∧ k < i
theorem made_ok {zs : List Str} {ms : List MaM} (nd : zs.Nodup) (l : zs.length ≤ 12) (l0 : 0 < zs.length) (ok4 : ∀ m ∈ ms, OkMa m) (pm4 : (ms.map (·.name)).Perm zs) (ah4 : Ahead zs zs.length ms) : OkMs ms := by
  refine ⟨ok4, pm4.nodup_iff.mpr nd, ⟨fun z => pos z zs, fun z => Nat.le_trans (pos_le z zs) l, fun m mm z ez => ?_⟩, ?_, ?_⟩
  · obtain ⟨j, k, ej, ek, jk, _⟩ := ah4 m mm z ez
    refine ⟨?_, ?_⟩
    · have h1 : z ∈ ms.map (·.name) := pm4.mem_iff.mpr (List.mem_of_getElem? ej)
      obtain ⟨o, ho, e⟩ := List.mem_map.mp h1
      exact ⟨o, ho, e⟩
    · show pos z zs < pos m.name zs
      rw [pos_get nd ej, pos_get nd ek]
      exact jk
  · have h1 := pm4.length_eq
    rw [List.length_map] at h1
    omega
  · have h1 := pm4.length_eq
    rw [List.length_map] at h1
    omega
section
variable {K : PySem.W.Frag} {H : Hp}
theorem ma_at {v : V} {m : MaM} (h : Dp K H v m.d) : ∃ a g ps, v = .ref a ∧ SqT K H a [.str m.name, ovD m.over, .ref g] ∧ SqT K H g ps ∧ DpAll K H ps (m.own.map PlM.d) := by
  unfold MaM.d at h
  obtain ⟨a, xs, rfl, st, hx⟩ := dp_tup h
  cases hx with
  | cons h1 t1 =>
    cases t1 with
    | cons h2 t2 =>
      cases t2 with
      | cons h3 t3 =>
        cases t3
        obtain rfl := dp_str h1
        obtain ⟨g, ps, rfl, sg, hp⟩ := dp_tup h3
        refine ⟨a, g, ps, rfl, ?_, sg, hp⟩
        cases e : m.over with
        | none =>
          rw [e] at h2
          obtain rfl := dp_non h2
          exact st
        | some z =>
          rw [e] at h2
          obtain rfl := dp_str h2
          exact st
theorem pl_at {v : V} {p : PlM} (h : Dp K H v p.d) : ∃ a g ss u, v = .ref a ∧ SqT K H a [.str p.name, .ref g, u] ∧ SqT K H g ss ∧ DpAll K H ss (p.sets.map setD) ∧ Dp K H u (textD p.text) := by
  unfold PlM.d at h
  obtain ⟨a, xs, rfl, st, hx⟩ := dp_tup h
  cases hx with
  | cons h1 t1 =>
    cases t1 with
    | cons h2 t2 =>
      cases t2 with
      | cons h3 t3 =>
        cases t3
        obtain rfl := dp_str h1
        obtain ⟨g, ps, rfl, sg, hp⟩ := dp_tup h2
        refine ⟨a, g, ps, _, rfl, st, sg, hp, ?_⟩
        cases e : p.text with
        | none =>
          rw [e] at h3
          exact h3
        | some z =>
          rw [e] at h3
          exact h3
theorem set_at {v : V} {s : Str × PyData} (h : Dp K H v (setD s)) : ∃ a u, v = .ref a ∧ SqT K H a [.str s.1, u] ∧ Dp K H u s.2 := by
  unfold setD at h
  obtain ⟨a, xs, rfl, st, hx⟩ := dp_tup h
  cases hx with
  | cons h1 t1 =>
    cases t1 with
    | cons h2 t2 =>
      cases t2
      obtain rfl := dp_str h1
      exact ⟨a, _, rfl, st, h2⟩
end
/-- what stands at a place of a list of records -/
theorem at_rec {K : PySem.W.Frag} {H : Hp} {α : Type} {f : α → PyData} {xs : List V} {l : List α} {i : Nat} {x : V} (h : DpAll K H xs (l.map f)) (e : xs[i]? = some x) : ∃ r, l[i]? = some r ∧ Dp K H x (f r) := by
  obtain ⟨d, ed, hd⟩ := dpAll_of h e
  rw [List.getElem?_map] at ed
  cases q : l[i]? with
  | none =>
    rw [q] at ed
    cases ed
  | some r =>
    rw [q] at ed
    exact ⟨r, rfl, by cases ed; exact hd⟩
theorem str_at {zs : List Str} {i : Nat} {x : V} (e : (zs.map V.str)[i]? = some x) : ∃ z, zs[i]? = some z ∧ x = .str z := by
  rw [List.getElem?_map] at e
  cases q : zs[i]? with
  | none =>
    rw [q] at e
    cases e
  | some z =>
    rw [q] at e
    exact ⟨z, rfl, (Option.some.inj e).symm⟩
/-! ### the chain of a master -/
def fnd (ms : List MaM) (z : Str) : Option MaM := ms.find? fun m => decide (m.name = z)
theorem fnd_some {ms : List MaM} {z : Str} {m : MaM} (h : fnd ms z = some m) : m ∈ ms ∧ m.name = z := ⟨List.mem_of_find?_eq_some h, of_decide_eq_true (List.find?_some (p := fun m : MaM => decide (m.name = z)) h)⟩
theorem fnd_of {ms : List MaM} {z : Str} (h : ∃ m ∈ ms, m.name = z) : ∃ m, fnd ms z = some m := by
  cases e : fnd ms z with
  | some m => exact ⟨m, rfl⟩
  | none =>
    obtain ⟨m, hm, q⟩ := h
    exact absurd (decide_eq_true q) (List.find?_eq_none.mp e m hm)
theorem fnd_self : ∀ {ms : List MaM} {m : MaM}, (ms.map (·.name)).Nodup → m ∈ ms → fnd ms m.name = some m
  | [], _, _, h => nomatch h
  | a :: r, m, nd, h => by
    have nd' := List.nodup_cons.mp nd
    unfold fnd
    rw [List.find?_cons]
    rcases List.mem_cons.mp h with rfl | h
    · rw [decide_eq_true rfl]
    · have n : a.name ≠ m.name := fun e => nd'.1 (List.mem_map.mpr ⟨m, h, e.symm⟩)
      rw [decide_eq_false n]
      exact fnd_self nd'.2 h
def chnN (ms : List MaM) : Nat → Str → List MaM
  | 0, _ => []
  | n + 1, z => match fnd ms z with
    | none => []
    | some m => m :: (match m.over with
      | none => []
      | some y => chnN ms n y)
def chn (ms : List MaM) (z : Str) : List MaM := chnN ms 20 z
theorem chnN_len (ms : List MaM) : ∀ n z, (chnN ms n z).length ≤ n
  | 0, _ => Nat.le_refl _
  | n + 1, z => by
    unfold chnN
    cases fnd ms z with
    | none => exact Nat.zero_le _
    | some m =>
      cases e : m.over with
      | none => simp [e]
      | some y =>
        simp only [e, List.length_cons]
        exact Nat.succ_le_succ (chnN_len ms n y)
theorem chn_len (ms : List MaM) (z : Str) : (chn ms z).length ≤ 20 := chnN_len ms 20 z
theorem chnN_mem (ms : List MaM) : ∀ n z m, m ∈ chnN ms n z → m ∈ ms
  | 0, _, _, h => nomatch h
  | n + 1, z, m, h => by
    unfold chnN at h
    cases e : fnd ms z with
    | none =>
      rw [e] at h
      cases h
    | some o =>
      simp only [e] at h
      rcases List.mem_cons.mp h with rfl | h
      · exact (fnd_some e).1
      · cases eo : o.over with
        | none =>
          simp only [eo] at h
          cases h
        | some y =>
          simp only [eo] at h
          exact chnN_mem ms n y m h
theorem chn_mem {ms : List MaM} {z : Str} {m : MaM} (h : m ∈ chn ms z) : m ∈ ms := chnN_mem ms 20 z m h
theorem chnN_more {ms : List MaM} {f : Str → Nat} (hf : ∀ m ∈ ms, ∀ z, m.over = some z → (∃ o ∈ ms, o.name = z) ∧ f z < f m.name) : ∀ n k z, f z < n → n ≤ k → chnN ms n z = chnN ms k z
  | 0, _, _, h, _ => absurd h (Nat.not_lt_zero _)
  | n + 1, 0, _, _, h => absurd h (Nat.not_succ_le_zero _)
  | n + 1, k + 1, z, h, l => by
    unfold chnN
    cases e : fnd ms z with
    | none => rfl
    | some o =>
      cases eo : o.over with
      | none => simp only [eo]
      | some y =>
        obtain ⟨mo, no⟩ := fnd_some e
        have h2 := (hf o mo y eo).2
        rw [no] at h2
        simp only [eo]
        rw [chnN_more hf n k y (by omega) (by omega)]
theorem chn_step {ms : List MaM} (ok : OkMs ms) {z : Str} {m : MaM} (h : fnd ms z = some m) : chn ms z = m :: (match m.over with
    | none => []
    | some y => chn ms y) := by
  obtain ⟨f, fl, hf⟩ := ok.over
  show chnN ms (19 + 1) z = _
  unfold chnN
  rw [h]
  cases e : m.over with
  | none => simp only [e]
  | some y =>
    simp only [e]
    rw [show chn ms y = chnN ms 20 y from rfl, chnN_more hf 19 20 y (by have := fl y; omega) (by decide)]
/-- the height of a name, for loops along a chain -/
def chnL (ms : List MaM) (z : Str) : Nat := (chn ms z).length
/-! ### places -/
def addN (acc : List Str) (z : Str) : List Str := if z ∈ acc then acc else acc ++ [z]
def plN (l : List MaM) : List Str := l.flatMap fun m => m.own.map (·.name)
def there (ms : List MaM) (z : Str) : List Str := (plN (chn ms z).reverse).foldl addN []
theorem addN_len {acc : List Str} {z : Str} : (addN acc z).length ≤ acc.length + 1 := by
  unfold addN
  split
  · omega
  · rw [List.length_append]
    exact Nat.le_refl _
theorem fold_len : ∀ {l acc : List Str}, (l.foldl addN acc).length ≤ acc.length + l.length
  | [], acc => Nat.le_refl _
  | z :: r, acc => by
    have h := fold_len (l := r) (acc := addN acc z)
    have h2 := addN_len (acc := acc) (z := z)
    rw [List.foldl_cons, List.length_cons]
    omega
theorem plN_app (l : List MaM) (m : MaM) : plN (l ++ [m]) = plN l ++ m.own.map (·.name) := by
  unfold plN
  rw [List.flatMap_append]
  simp
theorem plN_len : ∀ {l : List MaM}, (∀ m ∈ l, m.own.length ≤ 8) → (plN l).length ≤ 8 * l.length
  | [], _ => Nat.zero_le _
  | m :: r, h => by
    have ih := plN_len (l := r) fun x hx => h x (List.mem_cons_of_mem _ hx)
    have h1 := h m List.mem_cons_self
    show (m.own.map (·.name) ++ plN r).length ≤ _
    rw [List.length_append, List.length_map, List.length_cons]
    omega
theorem inV_strs (z : Str) (l : List Str) : inV (.str z) (l.map V.str) = decide (z ∈ l) := by
  rw [Bool.eq_iff_iff, decide_eq_true_eq]
  show (((l.map V.str).any fun y => eqV y (.str z)) = true) ↔ _
  rw [List.any_eq_true]
  constructor
  · rintro ⟨x, hx, e⟩
    obtain ⟨y, hy, rfl⟩ := List.mem_map.mp hx
    rw [← (beq_iff_eq.mp (show (y == z) = true from e))]
    exact hy
  · intro h
    exact ⟨.str z, List.mem_map_of_mem h, beq_iff_eq.mpr rfl⟩
theorem flat_strs (l : List Str) : (l.map V.str).all flatV = true := by
  rw [List.all_map]
  exact List.all_eq_true.mpr fun _ _ => rfl
/-! ### tables that grow, all else kept -/
def Tk (P' : Addr) (H H' : Hp) : Prop := TabG H' P' ∧ ∀ b o, H b = some o → b ≠ P' → H' b = some o
section
variable {K : PySem.W.Frag} {P' : Addr} {H H' H2 : Hp}
theorem Tk.same (g : TabG H P') (s : Same H H') : Tk P' H H' := ⟨tabSame g s, fun b o e _ => s b o e⟩
theorem Tk.refl (g : TabG H P') : Tk P' H H := Tk.same g (Same.refl H)
theorem Tk.tabbed (h : Tabbed P' H H') : Tk P' H H' := ⟨h.1, tabbedKt h⟩
theorem Tk.trans (a : Tk P' H H') (b : Tk P' H' H2) : Tk P' H H2 := ⟨b.1, fun c o e n => b.2 c o (a.2 c o e n) n⟩
theorem tab_ne {o : HO} {b : Addr} (g : TabG H P') (e : H b = some o) (n : ∀ ps, o ≠ .tbl ps) : b ≠ P' := by
  obtain ⟨ps, q, _⟩ := g
  intro z
  rw [z, q] at e
  exact n ps (Option.some.inj e).symm
theorem Tk.lst {D : Addr} {xs : List V} (g : TabG H P') (k : Tk P' H H') (e : H D = some (.lst xs)) : H' D = some (.lst xs) := k.2 _ _ e (tab_ne g e fun _ q => nomatch q)
theorem KT.tk (g : TabG H P') (k : Tk P' H H') : KT K H H' := fun _ _ h => sqT_by h (fun _ e => k.2 _ _ e (tab_ne g e fun _ q => nomatch q)) fun _ _ e => k.2 _ _ e (tab_ne g e fun _ q => nomatch q)
theorem Tk.ne {b D : Addr} {o : HO} (g : TabG H P') (k : Tk P' H H') (e : H b = some o) (n : H' D = none) : b ≠ D := by
  intro z
  by_cases hb : b = P'
  · obtain ⟨ps, q, _⟩ := k.1
    rw [← z, hb, q] at n
    cases n
  · rw [← z, k.2 b o e hb] at n
    cases n
theorem Tk.free {D : Addr} (g : TabG H P') (k : Tk P' H H') (n : H' D = none) : H D = none := by
  cases e : H D with
  | none => rfl
  | some o => exact absurd rfl (k.ne g e n)
/-- a new list may change -/
theorem Tk.put {D : Addr} {o : HO} (g : TabG H P') (h : H D = none) (k : Tk P' H H') (hD : TabG (upd H' D o) P') : Tk P' H (upd H' D o) := ⟨hD, fun b u e n => by
  rw [upd_ne (ne_of_none e h)]
  exact k.2 b u e n⟩
theorem tab_put {D : Addr} {xs : List V} {o : HO} (g : TabG H P') (e : H D = some (.lst xs)) : TabG (upd H D o) P' := by
  have n := tab_ne g e fun _ q => nomatch q
  obtain ⟨ps, q, t⟩ := g
  exact ⟨ps, (upd_ne n.symm).trans q, t⟩
theorem Pen.tk {p L : Addr} {ns : List Int} {n : Nat} (h : Pen H p L ns n) (g : TabG H P') (k : Tk P' H H') : Pen H' p L ns n := h.kt g k.2
end
/-! ### lists of records read along -/
/-- promises of what is told of masters and a name -/
def spMsL (K : PySem.W.Frag) (R : List MaM → Str → Hp → Addr → Prop) : Sp := fun vs H Q _ => ∃ (v : V) (z : Str) (ms : List MaM), vs = [v, .str z] ∧ Dp K H v (.tuple (ms.map MaM.d)) ∧ OkMs ms ∧ (∃ m ∈ ms, m.name = z) ∧
  ∀ (D : Addr) (H' : Hp), Same H H' → H D = none → R ms z H' D → Q (.ref D) H'
def spMsT (K : PySem.W.Frag) (P' : Addr) (R : List MaM → Str → Hp → Addr → Prop) : Sp := fun vs H Q _ => ∃ (v : V) (z : Str) (ms : List MaM), vs = [v, .str z] ∧ Dp K H v (.tuple (ms.map MaM.d)) ∧ OkMs ms ∧ (∃ m ∈ ms, m.name = z) ∧ TabG H P' ∧
  ∀ (D : Addr) (H' : Hp), Tk P' H H' → H D = none → R ms z H' D → Q (.ref D) H'
def RChn (K : PySem.W.Frag) : List MaM → Str → Hp → Addr → Prop := fun ms z H' D => ∃ xs, H' D = some (.lst xs) ∧ DpAll K H' xs ((chn ms z).map MaM.d)
def RNms : List MaM → Str → Hp → Addr → Prop := fun ms z H' D => H' D = some (.lst (((chn ms z).map (·.name)).map V.str))
def RThere : List MaM → Str → Hp → Addr → Prop := fun ms z H' D => H' D = some (.lst ((there ms z).map V.str))
theorem small_big {n : Nat} (h : n ≤ 100000) : n < sizeLine := by
  rw [sizeLine_eq]
  omega
/-! ### data all the same -/
mutual
def slim : PyData → Bool
  | .tuple ds => decide (ds.length ≤ 100000) && slimAll ds
  | .list ds => decide (ds.length ≤ 100000) && slimAll ds
  | _ => true
def slimAll : List PyData → Bool
  | [] => true
  | d :: r => slim d && slimAll r
end
mutual
def dep : PyData → Nat
  | .tuple ds => depAll ds + 1
  | .list ds => depAll ds + 1
  | _ => 0
def depAll : List PyData → Nat
  | [] => 0
  | d :: r => max (dep d) (depAll r)
end
theorem slim_at : ∀ {ds : List PyData} {d : PyData}, slimAll ds = true → d ∈ ds → slim d = true
  | [], _, _, h => nomatch h
  | a :: r, d, s, h => by
    simp only [slimAll, Bool.and_eq_true] at s
    rcases List.mem_cons.mp h with rfl | h
    · exact s.1
    · exact slim_at s.2 h
theorem slim_all : ∀ {ds : List PyData}, (∀ d ∈ ds, slim d = true) → slimAll ds = true
  | [], _ => by simp only [slimAll]
  | d :: r, h => by simp only [slimAll, h d List.mem_cons_self, slim_all fun x hx => h x (List.mem_cons_of_mem _ hx), Bool.and_self]
theorem dep_at : ∀ {ds : List PyData} {d : PyData}, d ∈ ds → dep d ≤ depAll ds
  | [], _, h => nomatch h
  | a :: r, d, h => by
    simp only [depAll]
    rcases List.mem_cons.mp h with rfl | h
    · omega
    · have := dep_at h
      omega
theorem dep_all : ∀ {ds : List PyData} {n : Nat}, (∀ d ∈ ds, dep d ≤ n) → depAll ds ≤ n
  | [], _, _ => by simp only [depAll]; omega
  | d :: r, n, h => by
    have h1 := h d List.mem_cons_self
    have h2 := dep_all fun x hx => h x (List.mem_cons_of_mem _ hx)
    simp only [depAll]
    omega
def tyN : PyData → String
  | .none => "NoneType"
  | .bool _ => "bool"
  | .int _ => "int"
  | .str _ => "str"
  | .list _ => "list"
  | .tuple _ => "tuple"
  | _ => "dict"
theorem sqL_ty {K : PySem.W.Frag} {H : Hp} {a : Addr} {xs : List V} (e : SqL K H a xs) : TyX K H (.ref a) (.type "list") := by
  rcases e with (e | ⟨o, e⟩) | ⟨o, its, n, e, c, _⟩
  · exact .base (.lst e)
  · exact .base (.frz e)
  · exact .kList e c
theorem sqT_ty {K : PySem.W.Frag} {H : Hp} {a : Addr} {xs : List V} (e : SqT K H a xs) : TyX K H (.ref a) (.type "tuple") := by
  rcases e with (e | ⟨o, e⟩) | ⟨o, its, n, e, c, _⟩
  · exact .base (.tup e)
  · exact .fTuple e
  · exact .kTuple e c
theorem dp_ty {K : PySem.W.Frag} {H : Hp} {v : V} {d : PyData} (h : Dp K H v d) : TyX K H v (.type (tyN d)) := by
  cases h with
  | non => exact .base .non
  | bl b => exact .base (.bl b)
  | int i => exact .base (.int i)
  | str x => exact .base (.str x)
  | lst s _ => exact sqL_ty s
  | tup s _ => exact sqT_ty s
/-- zip of two tuples, as a walk -/
theorem walk_zipT {K : PySem.W.Frag} {a b : Addr} {xs ys : List V} {n : Nat} (hn : n = min xs.length ys.length) : Walk (RZ.ItzT K a b) n (fun H => SqT K H a xs ∧ SqT K H b ys) (YPair (fun i => xs[i]?) (fun i => ys[i]?)) := by
  subst hn
  refine ⟨fun i _ hi q => ?_, fun _ q => ⟨xs, ys, q.1, q.2, by omega⟩, fun i H v H' _ q y => ?_⟩
  · have h1 : i < xs.length := by omega
    have h2 : i < ys.length := by omega
    exact ⟨xs, ys, xs[i], ys[i], q.1, q.2, by simp [h1], by simp [h2]⟩
  · obtain ⟨T, x, z, h1, h2, h3, h4, h5⟩ := y
    exact ⟨T, x, z, h1, h2, h3, h4 xs q.1, h5 ys q.2⟩
/-! ### data stays -/
theorem dp_lst {K : PySem.W.Frag} {H : Hp} {v : V} {ds : List PyData} (h : Dp K H v (.list ds)) : ∃ a xs, v = .ref a ∧ SqL K H a xs ∧ DpAll K H xs ds := by
  cases h with
  | lst s h => exact ⟨_, _, rfl, s, h⟩
theorem dp_bl {K : PySem.W.Frag} {H : Hp} {v : V} {b : Bool} (h : Dp K H v (.bool b)) : v = .bl b := by
  cases h
  rfl
mutual
theorem dp_same {K : PySem.W.Frag} {H H' : Hp} (s : Same H H') : ∀ {v : V} {d : PyData}, Dp K H v d → Dp K H' v d
  | _, _, .non => .non
  | _, _, .bl b => .bl b
  | _, _, .int i => .int i
  | _, _, .str x => .str x
  | _, _, .lst q h => .lst (s.seq q) (dpAll_same s h)
  | _, _, .tup q h => .tup (sqT_same s q) (dpAll_same s h)
theorem dpAll_same {K : PySem.W.Frag} {H H' : Hp} (s : Same H H') : ∀ {vs : List V} {ds : List PyData}, DpAll K H vs ds → DpAll K H' vs ds
  | _, _, .nil => .nil
  | _, _, .cons h t => .cons (dp_same s h) (dpAll_same s t)
end
def isSeq : PyData → Bool
  | .tuple _ => true
  | .list _ => true
  | _ => false
theorem any2 {K : PySem.W.Frag} {v : V} {H : Hp} {d : PyData} (h : Dp K H v d) : PySem.W.kitAny K (.type (tyN d)) [.type "tuple", .type "list"] = some (isSeq d) := by
  cases h with
  | non => exact kitAny_cons (kit_ty (a := "NoneType") (r := false) (by decide +kernel)) (fun _ => kitAny_cons (kit_ty (a := "NoneType") (r := false) (by decide +kernel)) (fun _ => kitAny_nil) (fun z => nomatch z)) (fun z => nomatch z)
  | bl b => exact kitAny_cons (kit_ty (a := "bool") (r := false) (by decide +kernel)) (fun _ => kitAny_cons (kit_ty (a := "bool") (r := false) (by decide +kernel)) (fun _ => kitAny_nil) (fun z => nomatch z)) (fun z => nomatch z)
  | int i => exact kitAny_cons (kit_ty (a := "int") (r := false) (by decide +kernel)) (fun _ => kitAny_cons (kit_ty (a := "int") (r := false) (by decide +kernel)) (fun _ => kitAny_nil) (fun z => nomatch z)) (fun z => nomatch z)
  | str x => exact kitAny_cons (kit_ty (a := "str") (r := false) (by decide +kernel)) (fun _ => kitAny_cons (kit_ty (a := "str") (r := false) (by decide +kernel)) (fun _ => kitAny_nil) (fun z => nomatch z)) (fun z => nomatch z)
  | lst _ _ => exact kitAny_cons (kit_ty (a := "list") (r := false) (by decide +kernel)) (fun _ => kitAny_cons (kit_ty (a := "list") (r := true) (by decide +kernel)) (fun z => nomatch z) (fun _ => rfl)) (fun z => nomatch z)
  | tup _ _ => exact kitAny_cons (kit_ty (a := "tuple") (r := true) (by decide +kernel)) (fun z => nomatch z) (fun _ => rfl)
theorem one_ty {K : PySem.W.Frag} {v : V} {H : Hp} {d : PyData} (h : Dp K H v d) {c : String} {r : Bool} (e : L2.kitB (tyN d) c = some r) : ∃ t, TyX K H v t ∧ PySem.W.kitOne K t (.type c) = some r := ⟨_, dp_ty h, kit_ty e⟩
theorem pair2 : Paired ClsV [V.ty "tuple", V.ty "list"] [Value.type "tuple", Value.type "list"] := .cons (.ty _) (.cons (.ty _) .nil)
theorem ones_all {n : Nat} : (List.replicate n true).all id = true := List.all_eq_true.mpr fun b hb => by rw [(List.mem_replicate.mp hb).2] <;> rfl
theorem noLAll_app : ∀ {ds es : List PyData}, noLAll (ds ++ es) = (noLAll ds && noLAll es)
  | [], es => by simp only [List.nil_append, noLAll, Bool.true_and]
  | d :: r, es => by simp only [List.cons_append, noLAll, noLAll_app, Bool.and_assoc]
theorem dpAll_rev {K : PySem.W.Frag} {H : Hp} : ∀ {xs : List V} {ds : List PyData}, DpAll K H xs ds → DpAll K H xs.reverse ds.reverse
  | _, _, .nil => .nil
  | _, _, .cons h t => by
    rw [List.reverse_cons, List.reverse_cons]
    exact dpAll_app (dpAll_rev t) (.cons h .nil)
end Gm

set_option Elab.async false
set_option linter.all false
set_option maxRecDepth 100000
set_option maxHeartbeats 2000000
/-! Kinds of things, errors by their classes, what masters say of a place. -/
namespace Gk
open PySem PySem.Spec PyProof.Rows L2 GxR Gx Gd Gn Gm Gc
/-! ### traits -/
def TR : List V := TRS.map V.str
def traitV : V → Bool
  | .str z => inV (.str z) TR
  | _ => false
theorem traitV_no {v : V} (h : isStr v = false) : traitV v = false := by
  cases v <;> first | rfl | cases h
theorem trait_mem {v : V} (h : traitV v = true) : ∃ z, v = .str z ∧ z ∈ TRS := by
  cases v with
  | str z =>
    refine ⟨z, rfl, ?_⟩
    rw [show traitV (.str z) = inV (.str z) (TRS.map V.str) from rfl, inV_strs] at h
    exact of_decide_eq_true h
  | _ => cases h
theorem trait_true {z : Str} (h : z ∈ TRS) : traitV (.str z) = true := by
  rw [show traitV (.str z) = inV (.str z) (TRS.map V.str) from rfl, inV_strs]
  exact decide_eq_true h
/-! ### whole numbers -/
def wholeV : V → Bool
  | .int _ => true
  | _ => false
def isInt : V → Bool
  | .int _ => true
  | .bl _ => true
  | _ => false
theorem Th.int_ {K : PySem.W.Frag} {H : Hp} {v : V} (h : Th H v) : ∃ t, TyX K H v t ∧ PySem.W.kitOne K t (.type "int") = some (isInt v) := by
  cases h with
  | non => exact ⟨_, .base .non, kit_ty (r := false) (by decide +kernel)⟩
  | bl b => exact ⟨_, .base (.bl b), kit_ty (r := true) (by decide +kernel)⟩
  | int i => exact ⟨_, .base (.int i), kit_ty (r := true) (by decide +kernel)⟩
  | str z => exact ⟨_, .base (.str z), kit_ty (r := false) (by decide +kernel)⟩
  | lst e => exact ⟨_, .base (.lst e), kit_ty (r := false) (by decide +kernel)⟩
  | tup e => exact ⟨_, .base (.tup e), kit_ty (r := false) (by decide +kernel)⟩
  | dK e => exact ⟨_, .base (.dK e), kit_ty (r := false) (by decide +kernel)⟩
theorem Th.bool_ {K : PySem.W.Frag} {H : Hp} {v : V} (h : Th H v) : ∃ t, TyX K H v t ∧ PySem.W.kitOne K t (.type "bool") = some (isBl v) := by
  cases h with
  | non => exact ⟨_, .base .non, kit_ty (r := false) (by decide +kernel)⟩
  | bl b => exact ⟨_, .base (.bl b), kit_ty (r := true) (by decide +kernel)⟩
  | int i => exact ⟨_, .base (.int i), kit_ty (r := false) (by decide +kernel)⟩
  | str z => exact ⟨_, .base (.str z), kit_ty (r := false) (by decide +kernel)⟩
  | lst e => exact ⟨_, .base (.lst e), kit_ty (r := false) (by decide +kernel)⟩
  | tup e => exact ⟨_, .base (.tup e), kit_ty (r := false) (by decide +kernel)⟩
  | dK e => exact ⟨_, .base (.dK e), kit_ty (r := false) (by decide +kernel)⟩
theorem Ok1.tk {P' : Addr} {H H' : Hp} {v : V} (h : Ok1 H v) (g : TabG H P') (k : Tk P' H H') : Ok1 H' v := ⟨h.1.kt g k.2, h.2⟩
theorem Ok1.same {H H' : Hp} {v : V} (h : Ok1 H v) (s : Same H H') : Ok1 H' v := ⟨h.1.same s, h.2⟩
theorem name_small {z : Str} (h : nameB z = true) : z.length ≤ 8 := by
  unfold nameB at h
  simp only [Bool.and_eq_true, decide_eq_true_eq] at h
  omega
/-! ### errors' classes -/
structure Er (K : PySem.W.Frag) (mg : Str → Option Value) (nm : Str) : Prop extends ExF K (He.ga K nm) where
  g : mg nm = some (.ref (He.ga K nm))
/-! ### what the chain says of a place -/
def fndV (ms : List MaM) : V → Option MaM
  | .str z => fnd ms z
  | _ => none
theorem fndV_some {ms : List MaM} {v : V} {m : MaM} (h : fndV ms v = some m) : v = .str m.name ∧ fnd ms m.name = some m := by
  cases v with
  | str z =>
    have e := (fnd_some (show fnd ms z = some m from h)).2
    rw [e]
    exact ⟨rfl, h⟩
  | _ => cases h
def said (l : List MaM) (y : Str) : List (Str × PlM) := l.flatMap fun m => (m.own.filter fun p => decide (p.name = y)).map fun p => (m.name, p)
def saidV (l : List MaM) : V → List (Str × PlM)
  | .str y => said l y
  | _ => []
def sd (s : Str × PlM) : PyData := .tuple [.str s.1, .tuple (s.2.sets.map setD), textD s.2.text]
theorem said_app (a b : List MaM) (y : Str) : said (a ++ b) y = said a y ++ said b y := List.flatMap_append
theorem said_one (m : MaM) (y : Str) : said [m] y = (m.own.filter fun p => decide (p.name = y)).map fun p => (m.name, p) := by
  unfold said
  rw [List.flatMap_cons, List.flatMap_nil, List.append_nil]
theorem said_len {y : Str} : ∀ {l : List MaM}, (∀ m ∈ l, m.own.length ≤ 8) → (said l y).length ≤ 8 * l.length
  | [], _ => Nat.zero_le _
  | m :: r, h => by
    have ih := said_len (y := y) (l := r) fun x hx => h x (List.mem_cons_of_mem _ hx)
    have h1 := h m List.mem_cons_self
    have h2 := List.length_filter_le (fun p : PlM => decide (p.name = y)) m.own
    show (((m.own.filter fun p => decide (p.name = y)).map fun p => (m.name, p)) ++ said r y).length ≤ _
    rw [List.length_append, List.length_map, List.length_cons]
    omega
theorem said_pl {l : List MaM} {y : Str} {s : Str × PlM} (h : s ∈ said l y) : ∃ m ∈ l, s.1 = m.name ∧ s.2 ∈ m.own ∧ s.2.name = y := by
  obtain ⟨m, hm, h⟩ := List.mem_flatMap.mp h
  obtain ⟨p, hp, rfl⟩ := List.mem_map.mp h
  obtain ⟨h1, h2⟩ := List.mem_filter.mp hp
  exact ⟨m, hm, rfl, h1, of_decide_eq_true h2⟩
def wfind : List (Str × PlM) → Str → Option (PyData × Str)
  | [], _ => none
  | s :: r, t => match s.2.sets.find? fun x => decide (x.1 = t) with
    | some x => some (x.2, s.1)
    | none => wfind r t
def tfind : List (Str × PlM) → Option (List Str × Str)
  | [] => none
  | s :: r => match s.2.text with
    | some x => some (x, s.1)
    | none => tfind r
def ownW (t : Str) : PyData := if t = "left" then .int 0 else if t = "top" then .int 0 else if t = "wide" then .int 40 else if t = "high" then .int 10 else if t = "size" then .int 1 else .str "plain"
def resW (l : List (Str × PlM)) (t : Str) : PyData := match wfind l t with
  | some x => .tuple [x.1, .tuple [.str "master", .str x.2]]
  | none => .tuple [ownW t, .tuple [.str "own"]]
def resT (l : List (Str × PlM)) : PyData := match tfind l with
  | some x => .tuple [.tuple (x.1.map .str), .str x.2]
  | none => .tuple [.none, .none]
theorem wfind_app {t : Str} : ∀ {a b : List (Str × PlM)}, wfind a t = none → wfind (a ++ b) t = wfind b t
  | [], _, _ => rfl
  | s :: r, b, h => by
    unfold wfind at h
    rw [List.cons_append]
    show wfind (s :: (r ++ b)) t = _
    rw [wfind]
    cases e : s.2.sets.find? fun x => decide (x.1 = t) with
    | some x =>
      rw [e] at h
      cases h
    | none =>
      rw [e] at h
      exact wfind_app h
theorem wfind_one {s : Str × PlM} {r : List (Str × PlM)} {t : Str} {x : Str × PyData} (h : (s.2.sets.find? fun x => decide (x.1 = t)) = some x) : wfind (s :: r) t = some (x.2, s.1) := by
  rw [wfind, h]
theorem wfind_no {s : Str × PlM} {r : List (Str × PlM)} {t : Str} (h : (s.2.sets.find? fun x => decide (x.1 = t)) = none) : wfind (s :: r) t = wfind r t := by
  rw [wfind, h]
theorem tfind_app : ∀ {a b : List (Str × PlM)}, tfind a = none → tfind (a ++ b) = tfind b
  | [], _, _ => rfl
  | s :: r, b, h => by
    unfold tfind at h
    rw [List.cons_append]
    show tfind (s :: (r ++ b)) = _
    rw [tfind]
    cases e : s.2.text with
    | some x =>
      rw [e] at h
      cases h
    | none =>
      rw [e] at h
      exact tfind_app h
theorem tfind_one {s : Str × PlM} {r : List (Str × PlM)} {x : List Str} (h : s.2.text = some x) : tfind (s :: r) = some (x, s.1) := by
  rw [tfind, h]
theorem tfind_no {s : Str × PlM} {r : List (Str × PlM)} (h : s.2.text = none) : tfind (s :: r) = tfind r := by
  rw [tfind, h]
theorem find_at {α : Type} {p : α → Bool} {l : List α} {j : Nat} {x : α} (e : l[j]? = some x) (h : p x = true) (n : (l.take j).find? p = none) : l.find? p = some x := by
  have hl := (List.getElem?_eq_some_iff.mp e).1
  have ed : l = l.take j ++ x :: l.drop (j + 1) := by
    have h1 := List.take_append_drop j l
    rw [List.drop_eq_getElem_cons hl, (List.getElem?_eq_some_iff.mp e).2] at h1
    exact h1.symm
  rw [ed, List.find?_append, n, List.find?_cons, h] <;> rfl
theorem find_more {α : Type} {p : α → Bool} {l : List α} {j : Nat} {x : α} (e : l[j]? = some x) (h : p x = false) (n : (l.take j).find? p = none) : (l.take (j + 1)).find? p = none := by
  rw [take_more e, List.find?_append, n, List.find?_cons, h] <;> rfl
theorem split_at {α : Type} {l : List α} {j : Nat} {x : α} (e : l[j]? = some x) : l = l.take j ++ x :: l.drop (j + 1) := by
  have hl := (List.getElem?_eq_some_iff.mp e).1
  have h1 := List.take_append_drop j l
  rw [List.drop_eq_getElem_cons hl, (List.getElem?_eq_some_iff.mp e).2] at h1
  exact h1.symm
/-- each place told is one of some master of the chain -/
theorem fold_mem {y : Str} : ∀ {l acc : List Str}, y ∈ l.foldl addN acc → y ∈ acc ∨ y ∈ l
  | [], acc, h => .inl h
  | z :: r, acc, h => by
    rcases fold_mem (l := r) (acc := addN acc z) h with h | h
    · unfold addN at h
      split at h
      · exact .inl h
      · rcases List.mem_append.mp h with h | h
        · exact .inl h
        · exact .inr (by rw [List.mem_singleton.mp h]; exact List.mem_cons_self)
    · exact .inr (List.mem_cons_of_mem _ h)
theorem there_said {ms : List MaM} {z y : Str} (h : y ∈ there ms z) : said (chn ms z) y ≠ [] ∧ ∃ m ∈ chn ms z, ∃ p ∈ m.own, p.name = y := by
  rcases fold_mem h with h | h
  · cases h
  · obtain ⟨m, hm, h⟩ := List.mem_flatMap.mp h
    obtain ⟨p, hp, rfl⟩ := List.mem_map.mp h
    have hm := List.mem_reverse.mp hm
    refine ⟨fun e => ?_, m, hm, p, hp, rfl⟩
    have : (m.name, p) ∈ said (chn ms z) p.name := List.mem_flatMap.mpr ⟨m, hm, List.mem_map.mpr ⟨p, List.mem_filter.mpr ⟨hp, decide_eq_true rfl⟩, rfl⟩⟩
    rw [e] at this
    cases this
theorem sd_at {K : PySem.W.Frag} {H : Hp} {v : V} {s : Str × PlM} (h : Dp K H v (sd s)) : ∃ a g ss u, v = .ref a ∧ SqT K H a [.str s.1, .ref g, u] ∧ SqT K H g ss ∧ DpAll K H ss (s.2.sets.map setD) ∧ Dp K H u (textD s.2.text) := by
  unfold sd at h
  obtain ⟨a, xs, rfl, st, hx⟩ := dp_tup h
  cases hx with
  | cons h1 t1 =>
    cases t1 with
    | cons h2 t2 =>
      cases t2 with
      | cons h3 t3 =>
        cases t3
        obtain rfl := dp_str h1
        obtain ⟨g, ps, rfl, sg, hp⟩ := dp_tup h2
        exact ⟨a, g, ps, _, rfl, st, sg, hp, h3⟩
theorem noL_setD {p : PlM} (h : OkPl p) : noLAll (p.sets.map setD) = true := noL_all fun d hd => by
  obtain ⟨s, hs, rfl⟩ := List.mem_map.mp hd
  unfold setD
  simp only [Gd.noL, noLAll, flat_noL (wOk_flat (h.right s hs).2), Bool.and_self]
theorem noL_text (o : Option (List Str)) : Gd.noL (textD o) = true := by
  cases o with
  | none => simp only [textD, Gd.noL]
  | some l =>
    simp only [textD, Gd.noL]
    exact noL_all fun d hd => by
      obtain ⟨z, _, rfl⟩ := List.mem_map.mp hd
      simp only [Gd.noL]
theorem noL_sd {s : Str × PlM} (h : OkPl s.2) : Gd.noL (sd s) = true := by
  unfold sd
  simp only [Gd.noL, noLAll, noL_setD h, noL_text, Bool.and_self]
theorem wfind_mem {t : Str} {x : PyData × Str} : ∀ {l : List (Str × PlM)}, wfind l t = some x → ∃ s ∈ l, ∃ e ∈ s.2.sets, x.1 = e.2
  | [], h => nomatch h
  | s :: r, h => by
    rw [wfind] at h
    cases e : s.2.sets.find? fun x => decide (x.1 = t) with
    | some y =>
      rw [e] at h
      cases h
      exact ⟨s, List.mem_cons_self, y, List.mem_of_find?_eq_some e, rfl⟩
    | none =>
      rw [e] at h
      obtain ⟨s', hs, q⟩ := wfind_mem h
      exact ⟨s', List.mem_cons_of_mem _ hs, q⟩
theorem tfind_mem {x : List Str × Str} : ∀ {l : List (Str × PlM)}, tfind l = some x → ∃ s ∈ l, s.2.text = some x.1
  | [], h => nomatch h
  | s :: r, h => by
    rw [tfind] at h
    cases e : s.2.text with
    | some y =>
      rw [e] at h
      cases h
      exact ⟨s, List.mem_cons_self, e⟩
    | none =>
      rw [e] at h
      obtain ⟨s', hs, q⟩ := tfind_mem h
      exact ⟨s', List.mem_cons_of_mem _ hs, q⟩
theorem flat_plain {d : PyData} (h : flatW d = true) : dep d = 0 ∧ slim d = true ∧ Gd.noL d = true := by
  cases d with
  | int i => exact ⟨by simp only [dep], by simp only [slim], by simp only [Gd.noL]⟩
  | str z => exact ⟨by simp only [dep], by simp only [slim], by simp only [Gd.noL]⟩
  | _ => cases h
theorem own_flat (t : Str) : flatW (ownW t) = true := by
  unfold ownW
  repeat (split; · rfl)
  rfl
theorem resW_ok {l : List (Str × PlM)} {t : Str} (h : ∀ s ∈ l, OkPl s.2) : dep (resW l t) = 2 ∧ slim (resW l t) = true ∧ Gd.noL (resW l t) = true := by
  unfold resW
  cases e : wfind l t with
  | none =>
    obtain ⟨h1, h2, h3⟩ := flat_plain (own_flat t)
    simp [dep, depAll, slim, slimAll, Gd.noL, noLAll, h1, h2, h3]
  | some x =>
    obtain ⟨s, hs, e', he, ex⟩ := wfind_mem e
    obtain ⟨h1, h2, h3⟩ := flat_plain (wOk_flat ((h s hs).right e' he).2)
    simp [dep, depAll, slim, slimAll, Gd.noL, noLAll, ex, h1, h2, h3]
theorem strs_plain {l : List Str} (h : l.length ≤ 1000) : depAll (l.map PyData.str) = 0 ∧ slimAll (l.map PyData.str) = true ∧ noLAll (l.map PyData.str) = true := by
  refine ⟨Nat.le_zero.mp (dep_all fun d hd => ?_), slim_all fun d hd => ?_, noL_all fun d hd => ?_⟩ <;> (obtain ⟨z, _, rfl⟩ := List.mem_map.mp hd)
  · simp only [dep, Nat.le_refl]
  · simp only [slim]
  · simp only [Gd.noL]
theorem resT_ok {l : List (Str × PlM)} (h : ∀ s ∈ l, OkPl s.2) : dep (Gk.resT l) ≤ 2 ∧ slim (Gk.resT l) = true ∧ Gd.noL (Gk.resT l) = true := by
  unfold Gk.resT
  cases e : tfind l with
  | none =>
    simp only [dep, depAll, slim, slimAll, Gd.noL, noLAll]
    decide
  | some x =>
    obtain ⟨s, hs, ex⟩ := tfind_mem e
    have hl := ((h s hs).text _ ex).1
    obtain ⟨h1, h2, h3⟩ := strs_plain (l := x.1) (by omega)
    simp [dep, depAll, slim, slimAll, Gd.noL, noLAll, h1, h2, h3, List.length_map, show x.1.length ≤ 100000 by omega]
theorem said_ok {l : List MaM} {y : Str} (h : ∀ m ∈ l, OkMa m) : ∀ s ∈ said l y, OkPl s.2 := fun s hs => by
  obtain ⟨m, hm, _, h2, _⟩ := said_pl hs
  exact ((h m hm).own _ h2).1
/-! ### slots wiped -/
theorem wipe_set_out {σ : L2.St} {i : Nat} {x : Option V} : ∀ {vs : List Nat}, i ∉ vs → wipe (σ.set i x) vs = (wipe σ vs).set i x
  | [], _ => rfl
  | v :: r, h => by
    have h1 : v ≠ i := fun e => h (by rw [e]; exact List.mem_cons_self)
    have ih := wipe_set_out (σ := σ) (x := x) (vs := r) fun m => h (List.mem_cons_of_mem _ m)
    show (wipe (σ.set i x) r).set v none = ((wipe σ r).set v none).set i x
    rw [ih, List.set_comm _ _ h1]
theorem wipe_set {σ : L2.St} {i : Nat} {x : Option V} : ∀ {vs : List Nat}, i ∈ vs → wipe (σ.set i x) vs = wipe σ vs
  | [], h => nomatch h
  | v :: r, h => by
    show (wipe (σ.set i x) r).set v none = (wipe σ r).set v none
    by_cases m : i ∈ r
    · rw [wipe_set m]
    · have e : i = v := (List.mem_cons.mp h).resolve_right m
      rw [wipe_set_out m, e, List.set_set]
theorem wipe_wipe (σ : L2.St) : ∀ vs : List Nat, wipe (wipe σ vs) vs = wipe σ vs
  | [] => rfl
  | v :: r => by
    show wipe ((wipe σ r).set v none) (v :: r) = _
    rw [wipe_set List.mem_cons_self]
    show (wipe (wipe σ r) r).set v none = (wipe σ r).set v none
    rw [wipe_wipe σ r]
theorem wset1 {σ : L2.St} {vs : List Nat} {i : Nat} {a : Option V} (hi : i ∈ vs) : wipe ((wipe σ vs).set i a) vs = wipe σ vs := by rw [wipe_set hi, wipe_wipe]
theorem wset2 {σ : L2.St} {vs : List Nat} {i j : Nat} {a b : Option V} (hi : i ∈ vs) (hj : j ∈ vs) : wipe (((wipe σ vs).set i a).set j b) vs = wipe σ vs := by rw [wipe_set hj, wset1 hi]
theorem wset3 {σ : L2.St} {vs : List Nat} {i j k : Nat} {a b c : Option V} (hi : i ∈ vs) (hj : j ∈ vs) (hk : k ∈ vs) : wipe ((((wipe σ vs).set i a).set j b).set k c) vs = wipe σ vs := by rw [wipe_set hk, wset2 hi hj]
/-! ### comprehensions of two fors -/
section
variable {J J1 : It} {n : Nat} {G : Hp → Prop} {Y : Nat → Hp → V → Hp → Prop}
theorem lc2_it (w : Walk J n G Y) {g g1 : TG} {tt tt1 : TT} {wi1 : TI} {te : TE} {vs vs1 : List Nat} {σ : L2.St} {H1 : Hp} {D : Addr} {Qd : Hp → Prop} (Pv : Nat → Hp → Prop) (h0 : Pv 0 (upd H1 D (.lst []))) (hG : ∀ i H, i ≤ n → Pv i H → G H)
    (hs : ∀ i x H H', i < n → Pv i H → Y i H x H' → g x (wipe σ vs) H' fun σ2 H2 => wipe σ2 vs = wipe σ vs ∧ tt σ2 H2 fun b H3 => if b = true then wi1 σ2 H3 fun J1 H4 => ∃ W1 : Nat → Nat → Hp → Prop, (∃ m, W1 0 m H4) ∧ ∀ j k H, W1 j k H →
      (J1.stop j H ∧ Pv (i + 1) H) ∨ (J1.go j H ∧ ∃ Nx1 : Hp → Prop, (∀ H', Nx1 H' → ∃ k', k' < k ∧ W1 (j + 1) k' H') ∧ ∀ x H', J1.yld j H x H' → g1 x (wipe σ2 vs1) H' fun σ3 H5 => wipe σ3 vs1 = wipe σ2 vs1 ∧ tt1 σ3 H5 fun b H6 =>
        if b = true then te σ3 H6 fun y H7 => ∃ acc, H7 D = some (.lst acc) ∧ acc.length < sizeLine ∧ Nx1 (upd H7 D (.lst (acc ++ [y]))) else Nx1 H6)
    else Pv (i + 1) H3) (hd : ∀ H, Pv n H → Qd H) :
    ∃ W : Nat → Nat → Hp → Prop, (∃ m, W 0 m (upd H1 D (.lst []))) ∧ ∀ i m H, W i m H →
  (J.stop i H ∧ Qd H) ∨ (J.go i H ∧ ∃ Nx : Hp → Prop, (∀ H', Nx H' → ∃ m', m' < m ∧ W (i + 1) m' H') ∧ ∀ x H', J.yld i H x H' → g x (wipe σ vs) H' fun σ2 H2 => wipe σ2 vs = wipe σ vs ∧ tt σ2 H2 fun b H3 =>
    if b = true then wi1 σ2 H3 fun J1 H4 => ∃ W1 : Nat → Nat → Hp → Prop, (∃ m, W1 0 m H4) ∧ ∀ j k H, W1 j k H →
      (J1.stop j H ∧ Nx H) ∨ (J1.go j H ∧ ∃ Nx1 : Hp → Prop, (∀ H', Nx1 H' → ∃ k', k' < k ∧ W1 (j + 1) k' H') ∧ ∀ x H', J1.yld j H x H' → g1 x (wipe σ2 vs1) H' fun σ3 H5 => wipe σ3 vs1 = wipe σ2 vs1 ∧ tt1 σ3 H5 fun b H6 =>
        if b = true then te σ3 H6 fun y H7 => ∃ acc, H7 D = some (.lst acc) ∧ acc.length < sizeLine ∧ Nx1 (upd H7 D (.lst (acc ++ [y]))) else Nx1 H6)
    else Nx H3) := by
  refine ⟨fun i m H => m = n - i ∧ i ≤ n ∧ Pv i H, ⟨n, by simp, Nat.zero_le _, h0⟩, ?_⟩
  rintro i m H ⟨rfl, hi, p⟩
  have q := hG i H hi p
  by_cases hlt : i < n
  · refine .inr ⟨w.goes i H hlt q, Pv (i + 1), fun H' p' => ⟨n - (i + 1), by omega, rfl, hlt, p'⟩, fun x H' y => hs i x H H' hlt p (w.yields i H x H' hlt q y)⟩
  · have e : i = n := by omega
    subst e
    exact .inl ⟨w.stops H q, hd H p⟩
/-- the inner one -/
theorem lcin_it (w : Walk J1 n G Y) {g1 : TG} {tt1 : TT} {te : TE} {vs1 : List Nat} {σ2 : L2.St} {H4 : Hp} {D : Addr} {Qd : Hp → Prop} (Pv : Nat → Hp → Prop) (h0 : Pv 0 H4) (hG : ∀ i H, i ≤ n → Pv i H → G H)
    (hs : ∀ j x H H', j < n → Pv j H → Y j H x H' → g1 x (wipe σ2 vs1) H' fun σ3 H5 => wipe σ3 vs1 = wipe σ2 vs1 ∧ tt1 σ3 H5 fun b H6 =>
        if b = true then te σ3 H6 fun y H7 => ∃ acc, H7 D = some (.lst acc) ∧ acc.length < sizeLine ∧ Pv (j + 1) (upd H7 D (.lst (acc ++ [y]))) else Pv (j + 1) H6) (hd : ∀ H, Pv n H → Qd H) :
    ∃ W1 : Nat → Nat → Hp → Prop, (∃ m, W1 0 m H4) ∧ ∀ j k H, W1 j k H →
      (J1.stop j H ∧ Qd H) ∨ (J1.go j H ∧ ∃ Nx1 : Hp → Prop, (∀ H', Nx1 H' → ∃ k', k' < k ∧ W1 (j + 1) k' H') ∧ ∀ x H', J1.yld j H x H' → g1 x (wipe σ2 vs1) H' fun σ3 H5 => wipe σ3 vs1 = wipe σ2 vs1 ∧ tt1 σ3 H5 fun b H6 =>
        if b = true then te σ3 H6 fun y H7 => ∃ acc, H7 D = some (.lst acc) ∧ acc.length < sizeLine ∧ Nx1 (upd H7 D (.lst (acc ++ [y]))) else Nx1 H6) := by
  refine ⟨fun i m H => m = n - i ∧ i ≤ n ∧ Pv i H, ⟨n, by simp, Nat.zero_le _, h0⟩, ?_⟩
  rintro i m H ⟨rfl, hi, p⟩
  have q := hG i H hi p
  by_cases hlt : i < n
  · refine .inr ⟨w.goes i H hlt q, Pv (i + 1), fun H' p' => ⟨n - (i + 1), by omega, rfl, hlt, p'⟩, fun x H' y => hs i x H H' hlt p (w.yields i H x H' hlt q y)⟩
  · have e : i = n := by omega
    subst e
    exact .inl ⟨w.stops H q, hd H p⟩
theorem lc2_itE (w : Walk J n G Y) {g g1 : TG} {tt tt1 : TT} {wi1 : TI} {te : TE} {vs vs1 : List Nat} {σ : L2.St} {H1 : Hp} {D : Addr} {Qd : Hp → Prop} (Pv : Nat → Hp → Prop) (h0 : Pv 0 (upd H1 D (.lst []))) (hG : ∀ i H, i ≤ n → Pv i H → G H)
    (σ0 : L2.St) (eσ : wipe σ vs = σ0) (hs : ∀ i x H H', i < n → Pv i H → Y i H x H' → g x σ0 H' fun σ2 H2 => wipe σ2 vs = σ0 ∧ tt σ2 H2 fun b H3 => if b = true then wi1 σ2 H3 fun J1 H4 => ∃ W1 : Nat → Nat → Hp → Prop, (∃ m, W1 0 m H4) ∧ ∀ j k H, W1 j k H →
      (J1.stop j H ∧ Pv (i + 1) H) ∨ (J1.go j H ∧ ∃ Nx1 : Hp → Prop, (∀ H', Nx1 H' → ∃ k', k' < k ∧ W1 (j + 1) k' H') ∧ ∀ x H', J1.yld j H x H' → g1 x (wipe σ2 vs1) H' fun σ3 H5 => wipe σ3 vs1 = wipe σ2 vs1 ∧ tt1 σ3 H5 fun b H6 =>
        if b = true then te σ3 H6 fun y H7 => ∃ acc, H7 D = some (.lst acc) ∧ acc.length < sizeLine ∧ Nx1 (upd H7 D (.lst (acc ++ [y]))) else Nx1 H6)
    else Pv (i + 1) H3) (hd : ∀ H, Pv n H → Qd H) :
    ∃ W : Nat → Nat → Hp → Prop, (∃ m, W 0 m (upd H1 D (.lst []))) ∧ ∀ i m H, W i m H →
  (J.stop i H ∧ Qd H) ∨ (J.go i H ∧ ∃ Nx : Hp → Prop, (∀ H', Nx H' → ∃ m', m' < m ∧ W (i + 1) m' H') ∧ ∀ x H', J.yld i H x H' → g x (wipe σ vs) H' fun σ2 H2 => wipe σ2 vs = wipe σ vs ∧ tt σ2 H2 fun b H3 =>
    if b = true then wi1 σ2 H3 fun J1 H4 => ∃ W1 : Nat → Nat → Hp → Prop, (∃ m, W1 0 m H4) ∧ ∀ j k H, W1 j k H →
      (J1.stop j H ∧ Nx H) ∨ (J1.go j H ∧ ∃ Nx1 : Hp → Prop, (∀ H', Nx1 H' → ∃ k', k' < k ∧ W1 (j + 1) k' H') ∧ ∀ x H', J1.yld j H x H' → g1 x (wipe σ2 vs1) H' fun σ3 H5 => wipe σ3 vs1 = wipe σ2 vs1 ∧ tt1 σ3 H5 fun b H6 =>
        if b = true then te σ3 H6 fun y H7 => ∃ acc, H7 D = some (.lst acc) ∧ acc.length < sizeLine ∧ Nx1 (upd H7 D (.lst (acc ++ [y]))) else Nx1 H6)
    else Nx H3) := by
  subst eσ
  exact lc2_it w Pv h0 hG hs hd
theorem lcin_itE (w : Walk J1 n G Y) {g1 : TG} {tt1 : TT} {te : TE} {vs1 : List Nat} {σ2 : L2.St} {H4 : Hp} {D : Addr} {Qd : Hp → Prop} (Pv : Nat → Hp → Prop) (h0 : Pv 0 H4) (hG : ∀ i H, i ≤ n → Pv i H → G H)
    (σ0 : L2.St) (eσ : wipe σ2 vs1 = σ0) (hs : ∀ j x H H', j < n → Pv j H → Y j H x H' → g1 x σ0 H' fun σ3 H5 => wipe σ3 vs1 = σ0 ∧ tt1 σ3 H5 fun b H6 =>
        if b = true then te σ3 H6 fun y H7 => ∃ acc, H7 D = some (.lst acc) ∧ acc.length < sizeLine ∧ Pv (j + 1) (upd H7 D (.lst (acc ++ [y]))) else Pv (j + 1) H6) (hd : ∀ H, Pv n H → Qd H) :
    ∃ W1 : Nat → Nat → Hp → Prop, (∃ m, W1 0 m H4) ∧ ∀ j k H, W1 j k H →
      (J1.stop j H ∧ Qd H) ∨ (J1.go j H ∧ ∃ Nx1 : Hp → Prop, (∀ H', Nx1 H' → ∃ k', k' < k ∧ W1 (j + 1) k' H') ∧ ∀ x H', J1.yld j H x H' → g1 x (wipe σ2 vs1) H' fun σ3 H5 => wipe σ3 vs1 = wipe σ2 vs1 ∧ tt1 σ3 H5 fun b H6 =>
        if b = true then te σ3 H6 fun y H7 => ∃ acc, H7 D = some (.lst acc) ∧ acc.length < sizeLine ∧ Nx1 (upd H7 D (.lst (acc ++ [y]))) else Nx1 H6) := by
  subst eσ
  exact lcin_it w Pv h0 hG hs hd
end
/-! ### the deck's own worths, a dict of the module -/
structure OW (K : PySem.W.Frag) (w : World) : Prop where
  at_ : ∀ z ∈ TRS, ∃ v, KDct K w (He.ga K "OWN_WORTHS") z v ∧ ∀ H, Dp K H v (ownW z)
def relW : PyData → Value → Bool
  | .int i, .int j _ => decide (i = j)
  | .str a, .str b _ => decide (a = b)
  | _, _ => false
def ownB (K : PySem.W.Frag) : Bool := TRS.all fun z => match PySem.W.nsIn K (He.ga K "OWN_WORTHS") z with
  | some (some u) => relW (ownW z) u
  | _ => false
theorem ownB_ok {K : PySem.W.Frag} {w : World} (h : ownB K = true) (d : ∃ es n, L2.KDict K w (He.ga K "OWN_WORTHS") es n) : OW K w := by
  refine ⟨fun z mz => ?_⟩
  have h1 := List.all_eq_true.mp h z mz
  obtain ⟨es, n, hd⟩ := d
  split at h1
  · rename_i u e
    cases eo : ownW z with
    | int i =>
      rw [eo] at h1
      cases u with
      | int j t =>
        obtain rfl : i = j := of_decide_eq_true h1
        exact ⟨.int i, ⟨es, n, _, hd.at_, hd.lit, e, ⟨t, rfl⟩⟩, fun H => .int i⟩
      | _ => cases h1
    | str s =>
      rw [eo] at h1
      cases u with
      | str j t =>
        obtain rfl : s = j := of_decide_eq_true h1
        exact ⟨.str s, ⟨es, n, _, hd.at_, hd.lit, e, ⟨t, rfl⟩⟩, fun H => .str s⟩
      | _ => cases h1
    | _ =>
      rw [eo] at h1
      cases h1
  · cases h1
/-! ### promises -/
section
variable (K : PySem.W.Frag) (P' : Addr)
def spTrait : Sp := fun vs H Q _ => ∃ v, vs = [v] ∧ Th H v ∧ Q (.bl (traitV v)) H
def spOneOf : Sp := fun vs H Q _ => ∃ (v : V) (a : Addr) (xs : List V), vs = [v, .ref a] ∧ Th H v ∧ SqT K H a xs ∧ xs.all flatV = true ∧ Q (.bl (isStr v && inV v xs)) H
def spMOfR : Sp := fun vs H Q E => ∃ (v n : V) (ms : List MaM), vs = [v, n] ∧ Dp K H v (.tuple (ms.map MaM.d)) ∧ OkMs ms ∧ Ok1 H n ∧ TabG H P' ∧
  (∀ (m : MaM) (u : V) (H' : Hp), fndV ms n = some m → Tk P' H H' → Dp K H' u m.d → Q u H') ∧ (fndV ms n = none → ∀ H', Tk P' H H' → E (.ref (He.ga K "NoMaster")) none H')
def spMsR (R : List MaM → Str → Hp → Addr → Prop) : Sp := fun vs H Q E => ∃ (v n : V) (ms : List MaM), vs = [v, n] ∧ Dp K H v (.tuple (ms.map MaM.d)) ∧ OkMs ms ∧ Ok1 H n ∧ TabG H P' ∧
  (∀ m, fndV ms n = some m → ∀ (D : Addr) (H' : Hp), Tk P' H H' → H D = none → R ms m.name H' D → Q (.ref D) H') ∧ (fndV ms n = none → ∀ H', Tk P' H H' → E (.ref (He.ga K "NoMaster")) none H')
def spSaid : Sp := fun vs H Q E => ∃ (v n y : V) (ms : List MaM), vs = [v, n, y] ∧ Dp K H v (.tuple (ms.map MaM.d)) ∧ OkMs ms ∧ Ok1 H n ∧ Ok1 H y ∧ TabG H P' ∧
  (fndV ms n = none → ∀ H', Tk P' H H' → E (.ref (He.ga K "NoMaster")) none H') ∧ (∀ m, fndV ms n = some m → saidV (chn ms m.name) y = [] → ∀ H', Tk P' H H' → E (.ref (He.ga K "NoPlace")) none H') ∧
  (∀ m, fndV ms n = some m → saidV (chn ms m.name) y ≠ [] → ∀ (D : Addr) (H' : Hp) (xs : List V), Tk P' H H' → H D = none → H' D = some (.lst xs) → DpAll K H' xs ((saidV (chn ms m.name) y).map sd) → Q (.ref D) H')
def spWSaid : Sp := fun vs H Q _ => ∃ (D : Addr) (t : Str) (xs : List V) (l : List (Str × PlM)), vs = [.ref D, .str t] ∧ t ∈ TRS ∧ H D = some (.lst xs) ∧ DpAll K H xs (l.map sd) ∧ ∀ (u : V) (H' : Hp), Same H H' → Dp K H' u (resW l t) → Q u H'
def spWBy : Sp := fun vs H Q E => ∃ (v n y t : V) (ms : List MaM), vs = [v, n, y, t] ∧ Dp K H v (.tuple (ms.map MaM.d)) ∧ OkMs ms ∧ Ok1 H n ∧ Ok1 H y ∧ Ok1 H t ∧ TabG H P' ∧
  (fndV ms n = none → ∀ H', Tk P' H H' → E (.ref (He.ga K "NoMaster")) none H') ∧ (∀ m, fndV ms n = some m → saidV (chn ms m.name) y = [] → ∀ H', Tk P' H H' → E (.ref (He.ga K "NoPlace")) none H') ∧
  (∀ m, fndV ms n = some m → saidV (chn ms m.name) y ≠ [] → traitV t = false → ∀ H', Tk P' H H' → E (.ref (He.ga K "NoTrait")) none H') ∧
  (∀ m z, fndV ms n = some m → saidV (chn ms m.name) y ≠ [] → t = .str z → z ∈ TRS → ∀ (u : V) (H' : Hp), Tk P' H H' → Dp K H' u (resW (saidV (chn ms m.name) y) z) → Q u H')
def spTBy : Sp := fun vs H Q E => ∃ (v n y : V) (ms : List MaM), vs = [v, n, y] ∧ Dp K H v (.tuple (ms.map MaM.d)) ∧ OkMs ms ∧ Ok1 H n ∧ Ok1 H y ∧ TabG H P' ∧
  (fndV ms n = none → ∀ H', Tk P' H H' → E (.ref (He.ga K "NoMaster")) none H') ∧ (∀ m, fndV ms n = some m → saidV (chn ms m.name) y = [] → ∀ H', Tk P' H H' → E (.ref (He.ga K "NoPlace")) none H') ∧
  (∀ m, fndV ms n = some m → saidV (chn ms m.name) y ≠ [] → ∀ (u : V) (H' : Hp), Tk P' H H' → Dp K H' u (resT (saidV (chn ms m.name) y)) → Q u H')
end
end Gk

set_option Elab.async false
set_option linter.all false
set_option maxRecDepth 100000
set_option maxHeartbeats 2000000
/-! enumerate over a tuple. -/
namespace PySem
open Sem (wp)
open AutoSeq1 (wpAny_loadPart')
theorem gr_newT (l : Addr) (items : Array Value) (n : Nat) (dct : Option Addr) (sl : Array (Option Value)) :
    Meets (Builtin.«enumerate.__new__» ⟨[.type "enumerate", .ref l], []⟩) (fun _ R s => s.heap.get? l = some { cls := .type "tuple", dict := dct, data := .seq items n, slots := sl } ∧
      R (.ok (.ret (.ref (s.heap.push { cls := .type "tuple_iterator", data := .fields #[.ref l, .int 0 0] }).objs.size)))
        { s with heap := (s.heap.push { cls := .type "tuple_iterator", data := .fields #[.ref l, .int 0 0] }).push { cls := .type "enumerate", data := .fields #[.none, .bool false, .ref s.heap.objs.size, rawInt 0, .none, .none] } }) :=
  .of_wp fun prog w A R s h => by
    obtain ⟨hp, g, d, tk, os⟩ := s; obtain ⟨hl, h⟩ := h
    have hsub := sub_enumerate
    have hL : Heap.IsTuple (Shared.heap ⟨hp, g, d, tk, os⟩) l items := ⟨_, hl, rfl, n, rfl⟩
    wp_walk using wpAny_loadPart' hl
    refine wpAny_stack_any fun st => wpAny_pure ?_
    split
    · rename_i c _ _ _ _ _
      cases (c == Value.type "enumerate")
      · wp_walk using wpAny_loadPart' hl, wpAny_pyIter_tuple hL
        exact ⟨_, rfl, h⟩
      · wp_walk using wpAny_loadPart' hl, wpAny_pyIter_tuple hL
        exact ⟨_, rfl, h⟩
    · wp_walk using wpAny_loadPart' hl, wpAny_pyIter_tuple hL
      exact ⟨_, rfl, h⟩
section
variable {prog : Program} {w : World} {A : Around} {E : Value → Shared → Prop} {s : Shared}
theorem gr_call_enumT {l : Addr} {items : Array Value} {Q : Value → Shared → Prop} (hL : s.heap.IsTuple l items)
    (h : ∀ h', IsEnum h' (s.heap.objs.size + 1) s.heap.objs.size 0 .none → h'.IsTupleIter s.heap.objs.size l 0 → h'.objs.size = s.heap.objs.size + 2 →
      (∀ b o, s.heap.get? b = some o → h'.get? b = some o) → Q (.ref (s.heap.objs.size + 1)) { s with heap := h' }) :
    wpAny (model prog w) A (call (.type "enumerate") [.ref l]) Q E s := by
  obtain ⟨⟨c, dct, dt, sl⟩, hl, hc, n, hd⟩ := hL
  replace hc : c = .type "tuple" := hc
  replace hd : dt = .seq items n := hd
  subst hc hd
  refine callType_new F.called_enumerate (by decide) (F.typeCall_enumerate_1 _) (F.newCall_enumerate_1 _) (fun obj => F.args_object_init_2 obj _) F.entry_enumerate_new
    (gr_newT l items n dct sl) ⟨hl, ?_⟩
  have hz : (s.heap.push { cls := .type "tuple_iterator", data := .fields #[.ref l, .int 0 0] }).objs.size = s.heap.objs.size + 1 := Heap.size_push ..
  show _ ∧ _
  rw [hz]
  have he : IsEnum ((s.heap.push { cls := .type "tuple_iterator", data := .fields #[.ref l, .int 0 0] }).push
      { cls := .type "enumerate", data := .fields #[.none, .bool false, .ref s.heap.objs.size, rawInt 0, .none, .none] }) (s.heap.objs.size + 1) s.heap.objs.size 0 .none := by
    have := Heap.get?_push_size (s.heap.push { cls := .type "tuple_iterator", data := .fields #[.ref l, .int 0 0] })
      (o := { cls := .type "enumerate", data := .fields #[.none, .bool false, .ref s.heap.objs.size, rawInt 0, .none, .none] }) rfl
    rw [hz] at this; exact this
  refine ⟨⟨_, he, rfl⟩, h _ he ⟨_, Heap.get?_push_of_some _ (Heap.get?_push_size _ rfl), rfl, rfl⟩ (by rw [Heap.size_push, hz]) fun b o x => Heap.get?_push_of_some _ (Heap.get?_push_of_some _ x)⟩
end
end PySem
namespace Gr2
open PySem PySem.Spec PyProof.Rows L2 GxR Gx Gd
/-- the tuple at a, each item with its number in a new pair -/
def Iett (K : PySem.W.Frag) (a : Addr) : It :=
  ⟨fun i H => ∃ (xs : List V) (x : V), SqT K H a xs ∧ xs[i]? = some x, fun i H v H' => ∃ T x, v = .ref T ∧ H T = none ∧ H' = upd H T (.tup [.int (i : Nat), x]) ∧ ∀ xs, SqT K H a xs → xs[i]? = some x, fun i H => ∃ xs : List V, SqT K H a xs ∧ xs.length = i⟩
theorem turn_enumT {P : Program} {w : World} {K : PySem.W.Frag} {elts : List Expr} {kk : Nat} {tpos : Pos} (a e it : Addr) :
    Turn P w K (.Tuple elts kk tpos) (Iett K a) [e, it] e (fun i h => (∃ old, IsEnum h e it ((i : Nat) : Int) old) ∧ h.IsTupleIter it a i ∧ e ≠ it) where
  mem := by simp
  obj := fun i h st b hb => by
    obtain ⟨⟨old, he⟩, ⟨o, ho, hc, hd⟩, _⟩ := st
    have e' : b = e ∨ b = it := by simpa using hb
    rcases e' with z | z
    · rw [z]; exact ⟨_, he, fun v q => nomatch q⟩
    · rw [z]; exact ⟨o, ho, fun v q => by rw [hd] at q; cases q⟩
  keep := fun i h h' st k => let ⟨⟨old, he⟩, hi, hne⟩ := st; ⟨⟨old, k e (by simp) _ he⟩, hi.at fun o q => k it (by simp) o q, hne⟩
  item := by
    intro X hP hw hK hc i pins s σ H E I hf st hg
    subst hP hw hK
    obtain ⟨⟨old, he⟩, hit, hne⟩ := st
    obtain ⟨xs, x, hq, hx⟩ := hg
    obtain ⟨its, rv, p, hz⟩ := I.tuple hq
    obtain ⟨u, hu, ru⟩ := rv.get hx
    have hel : e < s.heap.objs.size := Heap.lt_size he
    have hil : it < s.heap.objs.size := by obtain ⟨_, q, _⟩ := hit; exact Heap.lt_size q
    have nae : a ≠ e := fun z => by
      obtain ⟨o, ho, hc, _⟩ := p
      have he : s.heap.get? e = some _ := he
      rw [z, he] at ho
      cases ho
      have hc : (Value.type "enumerate") = Value.type "tuple" := hc
      injection hc with h
      exact absurd h (by decide)
    have nai : a ≠ it := fun z => by
      obtain ⟨o, ho, hc, _⟩ := p
      obtain ⟨o2, ho2, hc2, _⟩ := hit
      rw [z, ho2] at ho
      cases ho
      rw [hc2] at hc
      injection hc with h
      exact absurd h (by decide)
    have hlt : i < its.toArray.size := by
      have h := List.getElem?_eq_some_iff.mp hu
      simpa using h.1
    refine wpAny_pyNext_enum_itemD (Draws.tuple (A := X.A.in1) (I.ok.hd hc) it a nai its.toArray) he ⟨hit, p⟩ hlt hne (by simp only [List.mem_cons, List.not_mem_nil, or_false]; exact fun z => z.elim hne fun z => nae z.symm) fun y h' tk hy ho hit' hT hsz hk => ?_
    obtain rfl : y = u := by
      have hy : its.toArray[i]? = some y := hy
      rw [List.getElem?_toArray, hu] at hy
      exact (Option.some.inj hy).symm
    refine ⟨_, rfl, wpAny_letOwnedTupleGo_enum (s := { s with heap := h', toks := tk + 1 }) ho fun h'' he' sb => ?_⟩
    have hT2 : h''.get? s.heap.objs.size = some { cls := .type "tuple", data := .seq #[.int i tk, y] } := (sb.2 _ (Nat.ne_of_gt hel)).trans hT
    have new : ObjOk X.prog X.w (upd H s.heap.objs.size (.tup [.int (i : Nat), x])) h'' s.heap.objs.size (.tup [.int (i : Nat), x]) :=
      ⟨by show 2 ≤ sizeLine; decide, [.int i tk, y], .cons ⟨_, rfl⟩ (.cons ru .nil), ⟨_, hT2, rfl, _, rfl⟩⟩
    have I1 : Inv X pins σ (upd H s.heap.objs.size (.tup [.int (i : Nat), x])) { s with heap := h'', toks := tk + 1 } :=
      I.turnedNew (ch := [e, it]) (fun b ob hb q => (sb.2 b (fun z => hb (by simp [z]))).trans (hk b ob (fun z => hb (by simp [z])) (fun z => hb (by simp [z])) q)) hf (Nat.le_refl _) new
    refine ⟨.ref s.heap.objs.size, _, I1, rfl, ⟨_, x, rfl, I.hok.fresh (Nat.le_refl _), rfl, fun ys hy => by rw [I.tuple_inj hy hq]; exact hx⟩, ⟨⟨y, ?_⟩, hit'.1.at fun o q => (sb.2 it (Ne.symm hne)).trans q, hne⟩, fun b hb => ?_⟩
    · have e1 : ((i + 1 : Nat) : Int) = (i : Int) + 1 := by omega
      rw [e1]; exact he'
    · have hb' : b < s.heap.objs.size := by
        have e' : b = e ∨ b = it := by simpa using hb
        rcases e' with z | z
        · rw [z]; exact hel
        · rw [z]; exact hil
      rw [upd_ne (Nat.ne_of_lt hb')]
      exact (hf b hb).1
  done := by
    intro X hP hw hK hc i pins s σ H E I hf st hg
    subst hP hw hK
    obtain ⟨⟨old, he⟩, hit, hne⟩ := st
    obtain ⟨xs, hq, hx⟩ := hg
    obtain ⟨its, rv, p, hz⟩ := I.tuple hq
    obtain ⟨f0, f1, f2, f3, f4, f5⟩ := hf it (by simp)
    have hl := rv.length
    have nai : a ≠ it := fun z => by
      obtain ⟨o, ho, hc, _⟩ := p
      obtain ⟨o2, ho2, hc2, _⟩ := hit
      rw [z, ho2] at ho
      cases ho
      rw [hc2] at hc
      injection hc with h
      exact absurd h (by decide)
    have hn : i = its.toArray.size := by simp; omega
    subst hn
    exact wpAny_pyNext_enum_endD (Draws.tuple (A := X.A.in1) (I.ok.hd hc) it a nai its.toArray) he ⟨hit, p⟩ fun h' eb => ⟨rfl, I.turned (t' := s.toks) (fun b o hb q => eb b o hb q) f0 f1 f3 f4 f5⟩
  self := fun A i s Q E st h => let ⟨⟨_, he⟩, _⟩ := st; wpAny_pyIter_enum he h
def iEnumT (K : PySem.W.Frag) (ta : TA) : TI := fun σ H R => ta σ H fun vs H1 => ∃ a xs, vs = [.ref a] ∧ SqT K H1 a xs ∧ R (Iett K a) H1
theorem pi_enumT {X : Cx} {e : Expr} {ta : TA} {p pos tpos : Pos} {elts : List Expr} {kk : Nat} (hg : Gl X "enumerate") (hm : X.mg "enumerate" = none) (ha : PA X [e] ta) (hs : starEach [e] X.env = [(false, eval e X.env)] := by rfl) :
    PI X (.Tuple elts kk tpos) (.Call (.Name "enumerate" p) [e] [] pos) (iEnumT X.K ta) := by
  refine ⟨fun pins s σ H R I h => ?_⟩
  refine Call_ (ld_blt I hg hm boot_enumerate (PyProof.Rows.callWith_type1 (thn (ha.run pos pins s σ H _ I h) fun us s1 ⟨vs, H1, I1, r1, q1⟩ => ?_) hs rfl))
  obtain ⟨a, xs, ex, hq, q⟩ := q1
  subst ex
  cases r1 with
  | cons r rr =>
    cases rr
    cases r
    obtain ⟨its, rv, p', hz⟩ := I1.tuple hq
    refine gr_call_enumT p' fun h' he hit hsz hk => wpAny_pyIter_enum he ?_
    have I2 : Inv X pins σ H1 { s1 with heap := h' } := I1.kept (t' := s1.toks) hk
    refine ⟨s1.heap.objs.size + 1, [s1.heap.objs.size + 1, s1.heap.objs.size], _, _, H1, rfl, I2, turn_enumT a (s1.heap.objs.size + 1) s1.heap.objs.size, ⟨⟨.none, he⟩, hit, Nat.succ_ne_self _⟩, fun b hb => ?_, q⟩
    have e' : b = s1.heap.objs.size + 1 ∨ b = s1.heap.objs.size := by simpa using hb
    have hle : s1.heap.objs.size ≤ b := by
      rcases e' with z | z
      · rw [z]; exact Nat.le_add_right _ _
      · rw [z]; exact Nat.le_refl _
    exact I1.fpOk hle (I1.hok.fresh hle)
/-- the turns of enumerate over a tuple, for the for loop -/
theorem for_enumT {K : PySem.W.Frag} {a : Addr} {xs : List V} {g : TG} {tb : TS} {D : Ends} {σ : L2.St} {H : Hp} (Pv : Nat → L2.St → Hp → Prop) (h0 : Pv 0 σ H) (hl : ∀ i σ H, i ≤ xs.length → Pv i σ H → SqT K H a xs)
    (hs : ∀ i x T σ H, xs[i]? = some x → Pv i σ H → H T = none → g (.ref T) σ (upd H T (.tup [.int (i : Nat), x])) fun σ2 H2 => tb { D with nx := Pv (i + 1), ct := Pv (i + 1), bk := D.nx } σ2 H2) (hd : ∀ σ H, Pv xs.length σ H → D.nx σ H) :
    ∃ W : Nat → Nat → L2.St → Hp → Prop, (∃ m, W 0 m σ H) ∧ ∀ i m σ H, W i m σ H →
      ((Iett K a).stop i H ∧ D.nx σ H) ∨ ((Iett K a).go i H ∧ ∃ N : L2.St → Hp → Prop, (∀ σ' H', N σ' H' → ∃ m', m' < m ∧ W (i + 1) m' σ' H') ∧ ∀ x H', (Iett K a).yld i H x H' → g x σ H' fun σ2 H2 => tb { D with nx := N, ct := N, bk := D.nx } σ2 H2) := by
  refine ⟨fun i m σ H => m = xs.length - i ∧ i ≤ xs.length ∧ Pv i σ H, ⟨xs.length, rfl, Nat.zero_le _, h0⟩, ?_⟩
  rintro i m σ H ⟨rfl, hi, p⟩
  have q := hl i σ H hi p
  by_cases hlt : i < xs.length
  · refine .inr ⟨⟨xs, xs[i], q, List.getElem?_eq_getElem hlt⟩, Pv (i + 1), fun σ' H' p' => ⟨xs.length - (i + 1), by omega, rfl, hlt, p'⟩, fun v H' y => ?_⟩
    obtain ⟨T, x, rfl, hT, rfl, hx⟩ := y
    exact hs i x T σ H (hx xs q) p hT
  · have e : i = xs.length := by omega
    subst e
    exact .inl ⟨⟨xs, q, rfl⟩, hd σ H p⟩
end Gr2

set_option Elab.async false
set_option linter.all false
set_option maxRecDepth 100000
set_option maxHeartbeats 2000000
/-! Data without addresses, and how they stand in the heap. -/
namespace Ev
open PySem PySem.Spec PyProof.Rows L2 GxR Gx
/-- data: o tells whether a list, a dict is still the holder's own (may be changed) -/
inductive PV where
  | non | bl (b : Bool) | int (i : Int) | str (z : Str)
  | tup (xs : List PV)
  | lst (o : Bool) (xs : List PV)
  | dct (o : Bool) (ks : List Key) (vs : List PV)
  | rol (xs : List PV)
  | err (c : Str)
  | dtt (o : Bool) (ks : List (List Key)) (vs : List PV)
mutual
/-- how data stand: Z is the part of the heap that changes no more, the list: the addresses of what is still owned -/
inductive Rep (K : PySem.W.Frag) (Z H : Hp) : PV → V → List Addr → Prop where
  | non : Rep K Z H .non .non []
  | bl (b : Bool) : Rep K Z H (.bl b) (.bl b) []
  | int (i : Int) : Rep K Z H (.int i) (.int i) []
  | str (z : Str) : Rep K Z H (.str z) (.str z) []
  | tup {a : Addr} {xs : List PV} {vs : List V} {A : List Addr} (e : SqT K Z a vs) (r : Reps K Z H xs vs A) : Rep K Z H (.tup xs) (.ref a) A
  | lstF {a : Addr} {xs : List PV} {vs : List V} (e : Z a = some (.lst vs)) (r : Reps K Z H xs vs []) : Rep K Z H (.lst false xs) (.ref a) []
  | rol {a : Addr} {xs : List PV} {vs : List V} (e : SqL K Z a vs) (r : Reps K Z H xs vs []) : Rep K Z H (.rol xs) (.ref a) []
  | lstO {a : Addr} {xs : List PV} {vs : List V} {A : List Addr} (e : H a = some (.lst vs)) (r : Reps K Z H xs vs A) : Rep K Z H (.lst true xs) (.ref a) (a :: A)
  | dctF {a : Addr} {ks : List Key} {xs : List PV} {vs : List V} (e : Z a = some (.dK (ks.zip vs))) (l : ks.length = vs.length) (r : Reps K Z H xs vs []) : Rep K Z H (.dct false ks xs) (.ref a) []
  | dctO {a : Addr} {ks : List Key} {xs : List PV} {vs : List V} {A : List Addr} (e : H a = some (.dK (ks.zip vs))) (l : ks.length = vs.length) (r : Reps K Z H xs vs A) : Rep K Z H (.dct true ks xs) (.ref a) (a :: A)
  | err {a : Addr} {c : Str} {d : Option Addr} (e : Z a = some (Gc.ExK (.ref (He.ga K c)) d a)) : Rep K Z H (.err c) (.ref a) []
  | dttF {a : Addr} {ks : List (List Key)} {xs : List PV} {vs : List V} (e : Z a = some (.dT (ks.zip vs))) (l : ks.length = vs.length) (r : Reps K Z H xs vs []) : Rep K Z H (.dtt false ks xs) (.ref a) []
  | dttO {a : Addr} {ks : List (List Key)} {xs : List PV} {vs : List V} {A : List Addr} (e : H a = some (.dT (ks.zip vs))) (l : ks.length = vs.length) (r : Reps K Z H xs vs A) : Rep K Z H (.dtt true ks xs) (.ref a) (a :: A)
inductive Reps (K : PySem.W.Frag) (Z H : Hp) : List PV → List V → List Addr → Prop where
  | nil : Reps K Z H [] [] []
  | cons {x : PV} {v : V} {xs : List PV} {vs : List V} {A B : List Addr} (h : Rep K Z H x v A) (t : Reps K Z H xs vs B) : Reps K Z H (x :: xs) (v :: vs) (A ++ B)
end
variable {K : PySem.W.Frag} {Z Z' H H' : Hp}
def Le (Z Z' : Hp) : Prop := ∀ a o, Z a = some o → Z' a = some o
theorem Le.refl : Le Z Z := fun _ _ h => h
theorem Le.trans {Z1 Z2 Z3 : Hp} (a : Le Z1 Z2) (b : Le Z2 Z3) : Le Z1 Z3 := fun c o h => b c o (a c o h)
theorem Le.sqL {a : Addr} {vs : List V} (k : Le Z Z') (h : SqL K Z a vs) : SqL K Z' a vs := by
  rcases h with (h | ⟨o, h⟩) | h
  · exact .inl (.inl (k _ _ h))
  · exact .inl (.inr ⟨o, k _ _ h⟩)
  · exact .inr h
theorem Le.sqT {a : Addr} {vs : List V} (k : Le Z Z') (h : SqT K Z a vs) : SqT K Z' a vs := by
  rcases h with (h | ⟨o, h⟩) | h
  · exact .inl (.inl (k _ _ h))
  · exact .inl (.inr ⟨o, k _ _ h⟩)
  · exact .inr h
mutual
theorem Rep.mono {x : PV} {v : V} {A : List Addr} (h : Rep K Z H x v A) (z : Le Z Z') (k : ∀ a ∈ A, ∀ o, H a = some o → H' a = some o) : Rep K Z' H' x v A := by
  cases h with
  | non => exact .non
  | bl b => exact .bl b
  | int i => exact .int i
  | str s => exact .str s
  | tup e r => exact .tup (z.sqT e) (r.mono z k)
  | lstF e r => exact .lstF (z _ _ e) (r.mono z k)
  | rol e r => exact .rol (z.sqL e) (r.mono z k)
  | lstO e r => exact .lstO (k _ (List.mem_cons_self ..) _ e) (r.mono z fun a ha => k a (List.mem_cons_of_mem _ ha))
  | dctF e l r => exact .dctF (z _ _ e) l (r.mono z k)
  | dctO e l r => exact .dctO (k _ (List.mem_cons_self ..) _ e) l (r.mono z fun a ha => k a (List.mem_cons_of_mem _ ha))
  | dttF e l r => exact .dttF (z _ _ e) l (r.mono z k)
  | dttO e l r => exact .dttO (k _ (List.mem_cons_self ..) _ e) l (r.mono z fun a ha => k a (List.mem_cons_of_mem _ ha))
  | err e => exact .err (z _ _ e)
theorem Reps.mono {xs : List PV} {vs : List V} {A : List Addr} (h : Reps K Z H xs vs A) (z : Le Z Z') (k : ∀ a ∈ A, ∀ o, H a = some o → H' a = some o) : Reps K Z' H' xs vs A := by
  cases h with
  | nil => exact .nil
  | cons h t => exact .cons (h.mono z fun a ha => k a (List.mem_append_left _ ha)) (t.mono z fun a ha => k a (List.mem_append_right _ ha))
end
/-! owned nodes stand in the heap -/
mutual
theorem Rep.at_ {x : PV} {v : V} {A : List Addr} (h : Rep K Z H x v A) : ∀ a ∈ A, H a ≠ none := by
  cases h with
  | non => intro a ha; cases ha
  | bl b => intro a ha; cases ha
  | int i => intro a ha; cases ha
  | str s => intro a ha; cases ha
  | tup e r => exact r.at_
  | lstF e r => intro a ha; cases ha
  | rol e r => intro a ha; cases ha
  | lstO e r =>
    intro a ha
    rcases List.mem_cons.mp ha with rfl | ha
    · rw [e]; intro q; cases q
    · exact r.at_ a ha
  | dctF e l r => intro a ha; cases ha
  | dctO e l r =>
    intro a ha
    rcases List.mem_cons.mp ha with rfl | ha
    · rw [e]; intro q; cases q
    · exact r.at_ a ha
  | dttF e l r => intro a ha; cases ha
  | dttO e l r =>
    intro a ha
    rcases List.mem_cons.mp ha with rfl | ha
    · rw [e]; intro q; cases q
    · exact r.at_ a ha
  | err e => intro a ha; cases ha
theorem Reps.at_ {xs : List PV} {vs : List V} {A : List Addr} (h : Reps K Z H xs vs A) : ∀ a ∈ A, H a ≠ none := by
  cases h with
  | nil => intro a ha; cases ha
  | cons h t =>
    intro a ha
    rcases List.mem_append.mp ha with ha | ha
    · exact h.at_ a ha
    · exact t.at_ a ha
end
/-! ### free data: nothing of it may be changed any more -/
mutual
def PV.free : PV → Bool
  | .non => true
  | .bl _ => true
  | .int _ => true
  | .str _ => true
  | .tup xs => PV.frees xs
  | .lst o xs => !o && PV.frees xs
  | .dct o _ xs => !o && PV.frees xs
  | .rol xs => PV.frees xs
  | .err _ => true
  | .dtt o _ xs => !o && PV.frees xs
def PV.frees : List PV → Bool
  | [] => true
  | x :: xs => x.free && PV.frees xs
end
mutual
theorem Rep.nil_of_free {x : PV} {v : V} {A : List Addr} (h : Rep K Z H x v A) (f : x.free = true) : A = [] := by
  cases h with
  | non => rfl
  | bl b => rfl
  | int i => rfl
  | str s => rfl
  | tup e r => exact r.nil_of_free (by simpa [PV.free] using f)
  | lstF e r => rfl
  | rol e r => rfl
  | lstO e r => simp [PV.free] at f
  | dctF e l r => rfl
  | dctO e l r => simp [PV.free] at f
  | dttF e l r => rfl
  | dttO e l r => simp [PV.free] at f
  | err e => rfl
theorem Reps.nil_of_free {xs : List PV} {vs : List V} {A : List Addr} (h : Reps K Z H xs vs A) (f : PV.frees xs = true) : A = [] := by
  cases h with
  | nil => rfl
  | cons h t =>
    simp only [PV.frees, Bool.and_eq_true] at f
    rw [h.nil_of_free f.1, t.nil_of_free f.2] <;> rfl
end
mutual
theorem Rep.free_of_nil {x : PV} {v : V} {A : List Addr} (h : Rep K Z H x v A) (e0 : A = []) : x.free = true := by
  cases h with
  | non => rfl
  | bl b => rfl
  | int i => rfl
  | str s => rfl
  | tup e r => simpa [PV.free] using r.free_of_nil e0
  | lstF e r => simpa [PV.free] using r.free_of_nil rfl
  | rol e r => simpa [PV.free] using r.free_of_nil rfl
  | lstO e r => cases e0
  | dctF e l r => simpa [PV.free] using r.free_of_nil rfl
  | dctO e l r => cases e0
  | dttF e l r => simpa [PV.free] using r.free_of_nil rfl
  | dttO e l r => cases e0
  | err e => rfl
theorem Reps.free_of_nil {xs : List PV} {vs : List V} {A : List Addr} (h : Reps K Z H xs vs A) (e0 : A = []) : PV.frees xs = true := by
  cases h with
  | nil => rfl
  | cons h t =>
    obtain ⟨e1, e2⟩ := List.append_eq_nil_iff.mp e0
    simp only [PV.frees, Bool.and_eq_true]
    exact ⟨h.free_of_nil e1, t.free_of_nil e2⟩
end
theorem Reps.length {xs : List PV} {vs : List V} {A : List Addr} (h : Reps K Z H xs vs A) : xs.length = vs.length := by
  induction xs generalizing vs A with
  | nil => cases h; rfl
  | cons x xs ih => cases h with | cons h t => simp [ih t]
/-! freezing: nothing of it is owned any more -/
mutual
def PV.frz : PV → PV
  | .non => .non
  | .bl b => .bl b
  | .int i => .int i
  | .str z => .str z
  | .tup xs => .tup (PV.frzs xs)
  | .lst _ xs => .lst false (PV.frzs xs)
  | .dct _ ks xs => .dct false ks (PV.frzs xs)
  | .rol xs => .rol (PV.frzs xs)
  | .err c => .err c
  | .dtt _ ks xs => .dtt false ks (PV.frzs xs)
def PV.frzs : List PV → List PV
  | [] => []
  | x :: xs => x.frz :: PV.frzs xs
end
theorem PV.frzs_eq (xs : List PV) : PV.frzs xs = xs.map PV.frz := by
  induction xs with
  | nil => rfl
  | cons x xs ih => simp [PV.frzs, ih]
/-- what is frozen now: the addresses A of H come to Z -/
def zup (Z H : Hp) (A : List Addr) : Hp := fun a => if a ∈ A then H a else Z a
theorem zup_le {A : List Addr} (h : ∀ a ∈ A, Z a = none) : Le Z (zup Z H A) := fun a o e => by
  unfold zup
  rw [if_neg fun m => by rw [h a m] at e; cases e]
  exact e
theorem zup_in {A : List Addr} {a : Addr} (m : a ∈ A) : zup Z H A a = H a := if_pos m
theorem zup_out {A : List Addr} {a : Addr} (m : a ∉ A) : zup Z H A a = Z a := if_neg m
mutual
theorem Rep.frz {W : Hp} {x : PV} {v : V} {A : List Addr} (h : Rep K Z H x v A) (z : Le Z W) (k : ∀ a ∈ A, W a = H a) : Rep K W H x.frz v [] := by
  cases h with
  | non => exact .non
  | bl b => exact .bl b
  | int i => exact .int i
  | str s => exact .str s
  | tup e r => exact .tup (z.sqT e) (r.frz z k)
  | lstF e r => exact .lstF (z _ _ e) (r.frz z k)
  | rol e r => exact .rol (z.sqL e) (r.frz z k)
  | lstO e r => exact .lstF ((k _ (List.mem_cons_self ..)).trans e) (r.frz z fun a ha => k a (List.mem_cons_of_mem _ ha))
  | dctF e l r => exact .dctF (z _ _ e) l (r.frz z k)
  | dctO e l r => exact .dctF ((k _ (List.mem_cons_self ..)).trans e) l (r.frz z fun a ha => k a (List.mem_cons_of_mem _ ha))
  | dttF e l r => exact .dttF (z _ _ e) l (r.frz z k)
  | dttO e l r => exact .dttF ((k _ (List.mem_cons_self ..)).trans e) l (r.frz z fun a ha => k a (List.mem_cons_of_mem _ ha))
  | err e => exact .err (z _ _ e)
theorem Reps.frz {W : Hp} {xs : List PV} {vs : List V} {A : List Addr} (h : Reps K Z H xs vs A) (z : Le Z W) (k : ∀ a ∈ A, W a = H a) : Reps K W H (PV.frzs xs) vs [] := by
  cases h with
  | nil => exact .nil
  | cons h t => exact Reps.cons (A := []) (B := []) (h.frz z fun a ha => k a (List.mem_append_left _ ha)) (t.frz z fun a ha => k a (List.mem_append_right _ ha))
end
end Ev

set_option Elab.async false
set_option linter.all false
set_option maxRecDepth 100000
set_option maxHeartbeats 2000000
/-! Slots, states, steps. -/
namespace Ev
open PySem PySem.Spec PyProof.Rows L2 GxR Gx
inductive Kd where
  | own | io | bor
  deriving DecidableEq
abbrev Ent := Option (Kd × PV)
abbrev Env := List Ent
inductive Out (α : Type) where
  | ok (a : α) (env : Env)
  | exc (c : Str) (x : List PV) (env : Env)
  | bad
variable {K : PySem.W.Frag} {Z Z' H H' BH : Hp} {TB : List Addr}
/-- slots and what stands in them; O what the frame owns, BH what is lent to it -/
inductive Slots (K : PySem.W.Frag) (Z BH H : Hp) : List Ent → List (Option V) → List Addr → Prop where
  | nil : Slots K Z BH H [] [] []
  | non {es : List Ent} {vs : List (Option V)} {O : List Addr} (v : Option V) (t : Slots K Z BH H es vs O) : Slots K Z BH H (none :: es) (v :: vs) O
  | own {k : Kd} {x : PV} {v : V} {es : List Ent} {vs : List (Option V)} {A O : List Addr} (hk : k ≠ .bor) (h : Rep K Z H x v A) (t : Slots K Z BH H es vs O) : Slots K Z BH H (some (k, x) :: es) (some v :: vs) (A ++ O)
  | bor {x : PV} {v : V} {es : List Ent} {vs : List (Option V)} {A O : List Addr} (h : Rep K Z BH x v A) (t : Slots K Z BH H es vs O) : Slots K Z BH H (some (.bor, x) :: es) (some v :: vs) O
theorem Slots.len {es : List Ent} {vs : List (Option V)} {O : List Addr} (h : Slots K Z BH H es vs O) : es.length = vs.length := by
  induction h with
  | nil => rfl
  | non v t ih => simp [ih]
  | own hk h t ih => simp [ih]
  | bor h t ih => simp [ih]
theorem Slots.mono {es : List Ent} {vs : List (Option V)} {O : List Addr} (h : Slots K Z BH H es vs O) (z : Le Z Z') (k : ∀ a ∈ O, ∀ o, H a = some o → H' a = some o) : Slots K Z' BH H' es vs O := by
  induction h with
  | nil => exact .nil
  | non v t ih => exact .non v (ih k)
  | own hk h t ih => exact .own hk (h.mono z fun a ha => k a (List.mem_append_left _ ha)) (ih fun a ha => k a (List.mem_append_right _ ha))
  | bor h t ih => exact .bor (h.mono z fun a _ o e => e) (ih k)
theorem Slots.at_ {es : List Ent} {vs : List (Option V)} {O : List Addr} (h : Slots K Z BH H es vs O) : ∀ a ∈ O, H a ≠ none := by
  induction h with
  | nil => intro a ha; cases ha
  | non v t ih => exact ih
  | own hk h t ih =>
    intro a ha
    rcases List.mem_append.mp ha with ha | ha
    · exact h.at_ a ha
    · exact ih a ha
  | bor h t ih => exact ih
theorem Slots.app {es es' : List Ent} {vs vs' : List (Option V)} {O O' : List Addr} (h : Slots K Z BH H es vs O) (h' : Slots K Z BH H es' vs' O') : Slots K Z BH H (es ++ es') (vs ++ vs') (O ++ O') := by
  induction h with
  | nil => exact h'
  | non v t ih => exact .non v ih
  | own hk h t ih => rw [List.append_assoc]; exact .own hk h ih
  | bor h t ih => exact .bor h ih
theorem Slots.split : ∀ {es es' : List Ent} {vs vs' : List (Option V)} {O : List Addr}, es.length = vs.length → Slots K Z BH H (es ++ es') (vs ++ vs') O → ∃ O1 O2, O = O1 ++ O2 ∧ Slots K Z BH H es vs O1 ∧ Slots K Z BH H es' vs' O2
  | [], es', [], vs', O, _, h => ⟨[], O, rfl, .nil, h⟩
  | [], _, _ :: _, _, _, l, _ => by cases l
  | _ :: _, _, [], _, _, l, _ => by cases l
  | e :: es, es', v :: vs, vs', O, l, h => by
    have l' : es.length = vs.length := Nat.succ.inj l
    cases h with
    | non v t =>
      obtain ⟨O1, O2, rfl, s1, s2⟩ := Slots.split l' t
      exact ⟨O1, O2, rfl, .non v s1, s2⟩
    | own hk h t =>
      obtain ⟨O1, O2, rfl, s1, s2⟩ := Slots.split l' t
      exact ⟨_, O2, (List.append_assoc ..).symm, .own hk h s1, s2⟩
    | bor h t =>
      obtain ⟨O1, O2, rfl, s1, s2⟩ := Slots.split l' t
      exact ⟨O1, O2, rfl, .bor h s1, s2⟩
/-- a slot, only read: with what is lent as it stands now -/
theorem Slots.get {k : Kd} {x : PV} (lb : Le BH H) : ∀ {es : List Ent} {vs : List (Option V)} {O : List Addr} {i : Nat}, Slots K Z BH H es vs O → es[i]? = some (some (k, x)) → ∃ v A, vs[i]? = some (some v) ∧ Rep K Z H x v A
  | _, _, _, i, .nil, h => by simp at h
  | _, _, _, 0, .non v t, h => by simp at h
  | _, _, _, 0, .own (A := A) hk r t, h => by
    simp at h
    obtain ⟨rfl, rfl⟩ := h
    exact ⟨_, A, rfl, r⟩
  | _, _, _, 0, .bor (A := A) r t, h => by
    simp at h
    obtain ⟨rfl, rfl⟩ := h
    exact ⟨_, A, rfl, r.mono .refl fun a _ o e => lb a o e⟩
  | _, _, _, i + 1, .non v t, h => by
    obtain ⟨w, A, e1, r⟩ := Slots.get lb (i := i) t (by simpa using h)
    exact ⟨w, A, by simpa using e1, r⟩
  | _, _, _, i + 1, .own hk r0 t, h => by
    obtain ⟨w, A, e1, r⟩ := Slots.get lb (i := i) t (by simpa using h)
    exact ⟨w, A, by simpa using e1, r⟩
  | _, _, _, i + 1, .bor r0 t, h => by
    obtain ⟨w, A, e1, r⟩ := Slots.get lb (i := i) t (by simpa using h)
    exact ⟨w, A, by simpa using e1, r⟩
/-- a lent slot -/
theorem Slots.getB {x : PV} : ∀ {es : List Ent} {vs : List (Option V)} {O : List Addr} {i : Nat}, Slots K Z BH H es vs O → es[i]? = some (some (.bor, x)) → ∃ v A, vs[i]? = some (some v) ∧ Rep K Z BH x v A
  | _, _, _, i, .nil, h => by simp at h
  | _, _, _, 0, .non v t, h => by simp at h
  | _, _, _, 0, .own (A := A) hk r t, h => by
    simp at h
    exact absurd h.1 hk
  | _, _, _, 0, .bor (A := A) r t, h => by
    simp at h
    subst h
    exact ⟨_, A, rfl, r⟩
  | _, _, _, i + 1, .non v t, h => by
    obtain ⟨w, A, e1, r⟩ := Slots.getB (i := i) t (by simpa using h)
    exact ⟨w, A, by simpa using e1, r⟩
  | _, _, _, i + 1, .own hk r0 t, h => by
    obtain ⟨w, A, e1, r⟩ := Slots.getB (i := i) t (by simpa using h)
    exact ⟨w, A, by simpa using e1, r⟩
  | _, _, _, i + 1, .bor r0 t, h => by
    obtain ⟨w, A, e1, r⟩ := Slots.getB (i := i) t (by simpa using h)
    exact ⟨w, A, by simpa using e1, r⟩
/-- one slot of the frame's own, taken out; something put in its place -/
theorem Slots.at_own {k : Kd} {x : PV} (hk : k ≠ .bor) : ∀ {es : List Ent} {vs : List (Option V)} {O : List Addr} {i : Nat}, Slots K Z BH H es vs O → es[i]? = some (some (k, x)) →
    ∃ v A O1 O2, vs[i]? = some (some v) ∧ Rep K Z H x v A ∧ O = O1 ++ A ++ O2 ∧ ∀ (Z' H' : Hp) (e' : Ent) (v' : Option V) (A' : List Addr), Le Z Z' → (∀ a, a ∈ O1 ∨ a ∈ O2 → ∀ o, H a = some o → H' a = some o) → Slots K Z' BH H' [e'] [v'] A' → Slots K Z' BH H' (es.set i e') (vs.set i v') (O1 ++ A' ++ O2)
  | _, _, _, i, .nil, h => by simp at h
  | _, _, _, 0, .non v t, h => by simp at h
  | _, _, _, 0, .own (A := A) (O := O) hk r t, h => by
    simp at h
    obtain ⟨rfl, rfl⟩ := h
    exact ⟨_, A, [], O, rfl, r, rfl, fun Z' H' e' v' A' z k s => Slots.app (es := [e']) (vs := [v']) s (t.mono z fun a ha => k a (.inr ha))⟩
  | _, _, _, 0, .bor r t, h => by
    simp at h
    exact absurd h.1.symm hk
  | _, _, _, i + 1, .non v t, h => by
    obtain ⟨w, A, O1, O2, e1, r, e2, f⟩ := Slots.at_own hk (i := i) t (by simpa using h)
    exact ⟨w, A, O1, O2, by simpa using e1, r, e2, fun Z' H' e' v' A' z k s => .non v (f Z' H' e' v' A' z k s)⟩
  | _, _, _, i + 1, .own (A := A0) hk0 r0 t, h => by
    obtain ⟨w, A, O1, O2, e1, r, e2, f⟩ := Slots.at_own hk (i := i) t (by simpa using h)
    refine ⟨w, A, A0 ++ O1, O2, by simpa using e1, r, by rw [e2]; simp [List.append_assoc], fun Z' H' e' v' A' z k s => ?_⟩
    have q := Slots.own hk0 (r0.mono z fun a ha => k a (.inl (List.mem_append_left _ ha))) (f Z' H' e' v' A' z (fun a ha => k a (ha.imp (List.mem_append_right _) id)) s)
    rw [← List.append_assoc, ← List.append_assoc] at q
    exact q
  | _, _, _, i + 1, .bor (A := A0) r0 t, h => by
    obtain ⟨w, A, O1, O2, e1, r, e2, f⟩ := Slots.at_own hk (i := i) t (by simpa using h)
    exact ⟨w, A, O1, O2, by simpa using e1, r, e2, fun Z' H' e' v' A' z k s => .bor (r0.mono z fun a _ o e => e) (f Z' H' e' v' A' z k s)⟩
/-- a slot set, whatever stood there -/
theorem Slots.set_ : ∀ {es : List Ent} {vs : List (Option V)} {O : List Addr} {i : Nat}, Slots K Z BH H es vs O → i < es.length → ∀ (e' : Ent) (v' : Option V) (A' : List Addr), Slots K Z BH H [e'] [v'] A' →
    ∃ O1 O2 A, O = O1 ++ A ++ O2 ∧ Slots K Z BH H (es.set i e') (vs.set i v') (O1 ++ A' ++ O2)
  | _, _, _, i, .nil, h => by simp at h
  | _, _, _, 0, .non (O := O) v t, _ => fun e' v' A' s => ⟨[], O, [], rfl, Slots.app (es := [e']) (vs := [v']) s t⟩
  | _, _, _, 0, .own (A := A) (O := O) hk r t, _ => fun e' v' A' s => ⟨[], O, A, rfl, Slots.app (es := [e']) (vs := [v']) s t⟩
  | _, _, _, 0, .bor (A := A) (O := O) r t, _ => fun e' v' A' s => ⟨[], O, [], rfl, Slots.app (es := [e']) (vs := [v']) s t⟩
  | _, _, _, i + 1, .non v t, h => fun e' v' A' s => by
    obtain ⟨O1, O2, A, e1, s'⟩ := Slots.set_ (i := i) t (by simpa using h) e' v' A' s
    exact ⟨O1, O2, A, e1, .non v s'⟩
  | _, _, _, i + 1, .own (A := A0) hk r0 t, h => fun e' v' A' s => by
    obtain ⟨O1, O2, A, e1, s'⟩ := Slots.set_ (i := i) t (by simpa using h) e' v' A' s
    refine ⟨A0 ++ O1, O2, A, by rw [e1]; simp [List.append_assoc], ?_⟩
    have q := Slots.own hk r0 s'
    rw [← List.append_assoc, ← List.append_assoc] at q
    exact q
  | _, _, _, i + 1, .bor (A := A0) r0 t, h => fun e' v' A' s => by
    obtain ⟨O1, O2, A, e1, s'⟩ := Slots.set_ (i := i) t (by simpa using h) e' v' A' s
    exact ⟨O1, O2, A, e1, .bor r0 s'⟩
/-! ### states and steps -/
structure Good (TB : List Addr) (Z BH : Hp) (O : List Addr) (H : Hp) : Prop where
  le : Le Z H
  nz : ∀ a ∈ O, Z a = none
  nd : O.Nodup
  tb : ∀ t ∈ TB, TabG H t
  tz : ∀ t ∈ TB, Z t = none
  lb : Le BH H
  nb : ∀ a ∈ O, BH a = none
  bt : ∀ t ∈ TB, BH t = none
structure Step (TB : List Addr) (Z : Hp) (O : List Addr) (H : Hp) (Z' : Hp) (O' : List Addr) (H' : Hp) : Prop where
  z : Le Z Z'
  keep : ∀ a o, H a = some o → a ∉ O → a ∉ TB → H' a = some o
  own : ∀ a ∈ O', a ∈ O ∨ H a = none
  zn : ∀ a, Z' a ≠ none → Z a ≠ none ∨ a ∈ O ∨ H a = none
  dom : ∀ a, H a ≠ none → H' a ≠ none
theorem Step.refl {O : List Addr} : Step TB Z O H Z O H := ⟨.refl, fun _ _ h _ _ => h, fun _ h => .inl h, fun _ h => .inl h, fun _ h => h⟩
theorem Step.trans {Z1 H1 Z2 H2 : Hp} {O O1 O2 : List Addr} (s : Step TB Z O H Z1 O1 H1) (t : Step TB Z1 O1 H1 Z2 O2 H2) : Step TB Z O H Z2 O2 H2 := by
  have dn : ∀ a, H1 a = none → H a = none := fun a h => by
    cases e : H a with
    | none => rfl
    | some o => exact absurd h (s.dom a (by rw [e]; intro q; cases q))
  refine ⟨s.z.trans t.z, fun a o h n nt => t.keep a o (s.keep a o h n nt) (fun m => ?_) nt, fun a m => ?_, fun a m => ?_, fun a h => t.dom a (s.dom a h)⟩
  · rcases s.own a m with q | q
    · exact n q
    · rw [q] at h; cases h
  · rcases t.own a m with q | q
    · exact s.own a q
    · exact .inr (dn a q)
  · rcases t.zn a m with q | q | q
    · exact s.zn a q
    · exact .inr (s.own a q)
    · exact .inr (.inr (dn a q))
abbrev Tm := List (PV × V)
abbrev tmE (tm : Tm) : List Ent := tm.map fun p => some (Kd.own, p.1)
abbrev tmV (tm : Tm) : List (Option V) := tm.map fun p => some p.2
/-- what is fixed while a def runs: what is lent to it, where its in-and-out parameters stand -/
structure Fx where
  BH : Hp
  ios : Nat → Option V
structure Sim (K : PySem.W.Frag) (TB : List Addr) (F : Fx) (env : Env) (σ : List (Option V)) (tm : Tm) (Z H : Hp) (O : List Addr) : Prop where
  len : env.length = σ.length
  good : Good TB Z F.BH O H
  sl : Slots K Z F.BH H (env ++ tmE tm) (σ ++ tmV tm) O
  io : ∀ i v, F.ios i = some v → σ[i]? = some (some v) ∧ ∃ x, env[i]? = some (some (.io, x))
end Ev

set_option Elab.async false
set_option linter.all false
set_option maxRecDepth 100000
set_option maxHeartbeats 2000000
/-! Operands. -/
namespace Ev
open PySem PySem.Spec PyProof.Rows L2 GxR Gx
variable {K : PySem.W.Frag} {Z Z' H H' : Hp} {TB : List Addr} {F : Fx} {env env' : Env} {σ : List (Option V)} {tm ts : Tm} {O O' : List Addr}
mutual
theorem Rep.notab {x : PV} {v : V} {A : List Addr} (h : Rep K Z H x v A) : ∀ a ∈ A, ∀ ps, H a ≠ some (.tbl ps) := by
  cases h with
  | non => intro a ha; cases ha
  | bl b => intro a ha; cases ha
  | int i => intro a ha; cases ha
  | str s => intro a ha; cases ha
  | tup e r => exact r.notab
  | lstF e r => intro a ha; cases ha
  | rol e r => intro a ha; cases ha
  | lstO e r =>
    intro a ha ps q
    rcases List.mem_cons.mp ha with rfl | ha
    · rw [e] at q; cases q
    · exact r.notab a ha ps q
  | dctF e l r => intro a ha; cases ha
  | dctO e l r =>
    intro a ha ps q
    rcases List.mem_cons.mp ha with rfl | ha
    · rw [e] at q; cases q
    · exact r.notab a ha ps q
  | err e => intro a ha; cases ha
  | dttF e l r => intro a ha; cases ha
  | dttO e l r =>
    intro a ha ps q
    rcases List.mem_cons.mp ha with rfl | ha
    · rw [e] at q; cases q
    · exact r.notab a ha ps q
theorem Reps.notab {xs : List PV} {vs : List V} {A : List Addr} (h : Reps K Z H xs vs A) : ∀ a ∈ A, ∀ ps, H a ≠ some (.tbl ps) := by
  cases h with
  | nil => intro a ha; cases ha
  | cons h t =>
    intro a ha ps q
    rcases List.mem_append.mp ha with ha | ha
    · exact h.notab a ha ps q
    · exact t.notab a ha ps q
end
theorem Slots.notab {BH : Hp} {es : List Ent} {vs : List (Option V)} {O : List Addr} (h : Slots K Z BH H es vs O) : ∀ a ∈ O, ∀ ps, H a ≠ some (.tbl ps) := by
  induction h with
  | nil => intro a ha; cases ha
  | non v t ih => exact ih
  | own hk h t ih =>
    intro a ha
    rcases List.mem_append.mp ha with ha | ha
    · exact h.notab a ha
    · exact ih a ha
  | bor h t ih => exact ih
theorem not_tb {a : Addr} (tb : ∀ t ∈ TB, TabG H t) (n : ∀ ps, H a ≠ some (.tbl ps)) : a ∉ TB := fun m => by
  obtain ⟨ps, e, _⟩ := tb a m
  exact n ps e
theorem tm_frz {BH W : Hp} : ∀ {ts : Tm} {O : List Addr}, Slots K Z BH H (tmE ts) (tmV ts) O → Le Z W → (∀ a ∈ O, W a = H a) → ∀ p ∈ ts, Rep K W H p.1.frz p.2 []
  | [], _, _, _, _ => fun p hp => by cases hp
  | t :: ts, _, h, z, k => by
    cases h with
    | own hk r s =>
      intro p hp
      rcases List.mem_cons.mp hp with rfl | hp
      · exact r.frz z fun a ha => k a (List.mem_append_left _ ha)
      · exact tm_frz s z (fun a ha => k a (List.mem_append_right _ ha)) p hp
theorem Good.sub {BH : Hp} {O1 O2 : List Addr} (g : Good TB Z BH (O1 ++ O2) H) : Good TB Z BH O1 H :=
  ⟨g.le, fun a ha => g.nz a (List.mem_append_left _ ha), (List.nodup_append.mp g.nd).1, g.tb, g.tz, g.lb, fun a ha => g.nb a (List.mem_append_left _ ha), g.bt⟩
/-- some of what is owned is frozen -/
theorem Good.frz {BH : Hp} {O1 A O2 : List Addr} (g : Good TB Z BH (O1 ++ A ++ O2) H) (nt : ∀ a ∈ A, a ∉ TB) : Good TB (zup Z H A) BH (O1 ++ O2) H ∧ Le Z (zup Z H A) ∧ Step TB Z (O1 ++ A ++ O2) H (zup Z H A) (O1 ++ O2) H := by
  have nd := g.nd
  rw [List.append_assoc] at nd
  obtain ⟨nd1, nd2, dj1⟩ := List.nodup_append.mp nd
  obtain ⟨ndA, nd3, dj2⟩ := List.nodup_append.mp nd2
  have mA : ∀ a ∈ A, a ∈ O1 ++ A ++ O2 := fun a ha => List.mem_append_left _ (List.mem_append_right _ ha)
  have m12 : ∀ a ∈ O1 ++ O2, a ∈ O1 ++ A ++ O2 ∧ a ∉ A := fun a ha => by
    rcases List.mem_append.mp ha with h | h
    · exact ⟨List.mem_append_left _ (List.mem_append_left _ h), fun m => dj1 a h a (List.mem_append_left _ m) rfl⟩
    · exact ⟨List.mem_append_right _ h, fun m => dj2 a m a h rfl⟩
  have zl : Le Z (zup Z H A) := zup_le fun a ha => g.nz a (mA a ha)
  refine ⟨⟨fun a o h => ?_, fun a ha => ?_, List.nodup_append.mpr ⟨nd1, nd3, fun a h1 b h2 e => dj1 a h1 b (List.mem_append_right _ h2) e⟩, g.tb, fun t ht => ?_, g.lb, fun a ha => g.nb a (m12 a ha).1, g.bt⟩, zl, ⟨zl, fun a o h _ _ => h, fun a h => .inl (m12 a h).1, fun a h => ?_, fun a h => h⟩⟩
  · by_cases m : a ∈ A
    · rw [zup_in m] at h; exact h
    · rw [zup_out m] at h; exact g.le a o h
  · rw [zup_out (m12 a ha).2]; exact g.nz a (m12 a ha).1
  · rw [zup_out fun m => nt t m ht]; exact g.tz t ht
  · by_cases m : a ∈ A
    · exact .inr (.inl (mA a m))
    · rw [zup_out m] at h; exact .inl h
theorem Sim.splitTm (s : Sim K TB F env σ (tm ++ ts) Z H O) : ∃ O1 O2, O = O1 ++ O2 ∧ Slots K Z F.BH H (env ++ tmE tm) (σ ++ tmV tm) O1 ∧ Slots K Z F.BH H (tmE ts) (tmV ts) O2 := by
  have sl := s.sl
  have e1 : env ++ tmE (tm ++ ts) = (env ++ tmE tm) ++ tmE ts := by simp [List.append_assoc]
  have e2 : σ ++ tmV (tm ++ ts) = (σ ++ tmV tm) ++ tmV ts := by simp [List.append_assoc]
  rw [e1, e2] at sl
  have l1 : (env ++ tmE tm).length = (σ ++ tmV tm).length := by simp [s.len]
  exact Slots.split l1 sl
/-- the last temporaries are frozen and put away -/
theorem Sim.frzTm (s : Sim K TB F env σ (tm ++ ts) Z H O) : ∃ Z' O', Step TB Z O H Z' O' H ∧ Sim K TB F env σ tm Z' H O' ∧ ∀ p ∈ ts, Rep K Z' H p.1.frz p.2 [] := by
  obtain ⟨O1, O2, rfl, s1, s2⟩ := s.splitTm
  have g := s.good
  have nt2 : ∀ a ∈ O2, a ∉ TB := fun a ha => not_tb g.tb (s2.notab a ha)
  rw [show O1 ++ O2 = O1 ++ O2 ++ [] by simp] at g
  obtain ⟨g', zl, st⟩ := g.frz nt2
  rw [List.append_nil, List.append_nil] at st
  rw [List.append_nil] at g'
  exact ⟨zup Z H O2, O1, st, ⟨s.len, g', s1.mono zl fun a _ o h => h, s.io⟩, tm_frz s2 zl fun a ha => zup_in ha⟩
/-- .. put away only -/
theorem Sim.dropTm (s : Sim K TB F env σ (tm ++ ts) Z H O) : ∃ O', Step TB Z O H Z O' H ∧ Sim K TB F env σ tm Z H O' := by
  obtain ⟨O1, O2, rfl, s1, s2⟩ := s.splitTm
  exact ⟨O1, ⟨.refl, fun a o h _ _ => h, fun a h => .inl (List.mem_append_left _ h), fun a h => .inl h, fun a h => h⟩, ⟨s.len, s.good.sub, s1, s.io⟩⟩
/-- something new: nothing of the old has changed -/
structure New (TB : List Addr) (Z : Hp) (H : Hp) (Z' : Hp) (A : List Addr) (H' : Hp) : Prop where
  z : Le Z Z'
  le : Le Z' H'
  keep : ∀ a o, H a = some o → H' a = some o
  fr : ∀ a ∈ A, H a = none
  nd : A.Nodup
  zn : ∀ a, Z' a ≠ none → Z a ≠ none ∨ H a = none
  nz : ∀ a ∈ A, Z' a = none
theorem New.refl {BH : Hp} (g : Good TB Z BH O H) : New TB Z H Z [] H := ⟨.refl, g.le, fun _ _ h => h, (fun a h => by cases h), List.nodup_nil, fun _ h => .inl h, (fun a h => by cases h)⟩
theorem tab_keep {t : Addr} (g : TabG H t) (k : ∀ a o, H a = some o → H' a = some o) : TabG H' t := by
  obtain ⟨ps, e, r⟩ := g
  exact ⟨ps, k _ _ e, r⟩
theorem New.step {A : List Addr} (n : New TB Z H Z' A H') : Step TB Z O H Z' (O ++ A) H' := by
  refine ⟨n.z, fun a o h _ _ => n.keep a o h, fun a h => ?_, fun a h => (n.zn a h).imp id .inr, fun a h => ?_⟩
  · exact (List.mem_append.mp h).imp id fun m => n.fr a m
  · cases e : H a with
    | none => exact absurd e h
    | some o => rw [n.keep a o e]; intro q; cases q
theorem New.zo {A : List Addr} (n : New TB Z H Z' A H') {a : Addr} (h1 : H a ≠ none) (h2 : Z a = none) : Z' a = none := by
  cases e : Z' a with
  | none => rfl
  | some o =>
    rcases n.zn a (by rw [e]; intro q; cases q) with q | q
    · exact absurd h2 q
    · exact absurd q h1
theorem tab_there {t : Addr} (g : TabG H t) : H t ≠ none := by
  obtain ⟨ps, e, _⟩ := g
  rw [e]; intro q; cases q
theorem New.good {BH : Hp} {A : List Addr} (n : New TB Z H Z' A H') (g : Good TB Z BH O H) (at_ : ∀ a ∈ O, H a ≠ none) : Good TB Z' BH (O ++ A) H' := by
  refine ⟨n.le, fun a ha => ?_, List.nodup_append.mpr ⟨g.nd, n.nd, fun a h1 b h2 e => ?_⟩, fun t ht => tab_keep (g.tb t ht) n.keep, fun t ht => n.zo (tab_there (g.tb t ht)) (g.tz t ht), fun a o h => n.keep a o (g.lb a o h), fun a ha => ?_, g.bt⟩
  · rcases List.mem_append.mp ha with ha | ha
    · exact n.zo (at_ a ha) (g.nz a ha)
    · exact n.nz a ha
  · subst e
    exact at_ a h1 (n.fr a h2)
  · rcases List.mem_append.mp ha with ha | ha
    · exact g.nb a ha
    · cases e : BH a with
      | none => rfl
      | some o => 
        have := g.lb a o e
        rw [n.fr a ha] at this
        cases this
theorem New.sim {A : List Addr} {x : PV} {v : V} (n : New TB Z H Z' A H') (s : Sim K TB F env σ tm Z H O) (r : Rep K Z' H' x v A) : Sim K TB F env σ (tm ++ [(x, v)]) Z' H' (O ++ A) := by
  obtain ⟨len, g, sl, io⟩ := s
  refine ⟨len, n.good g sl.at_, ?_, io⟩
  have e1 : env ++ tmE (tm ++ [(x, v)]) = (env ++ tmE tm) ++ [some (Kd.own, x)] := by simp [List.append_assoc]
  have e2 : σ ++ tmV (tm ++ [(x, v)]) = (σ ++ tmV tm) ++ [some v] := by simp [List.append_assoc]
  rw [e1, e2]
  have q : Slots K Z' F.BH H' [some (Kd.own, x)] [some v] (A ++ []) := .own (by decide) r .nil
  rw [List.append_nil] at q
  exact (sl.mono n.z fun a _ o h => n.keep a o h).app q
/-- nothing but tables and new things -/
theorem New.sim0 (n : New TB Z H Z' [] H') (s : Sim K TB F env σ tm Z H O) : Sim K TB F env σ tm Z' H' O := by
  obtain ⟨len, g, sl, io⟩ := s
  have q := n.good g sl.at_
  rw [List.append_nil] at q
  exact ⟨len, q, sl.mono n.z fun a _ o h => n.keep a o h, io⟩
/-! ### readings -/
/-- an exception told: its class by its name, its fields -/
def ExcR (mg : Str → Option Value) (K : PySem.W.Frag) (Z H : Hp) (c : Str) (xs : List PV) (cls : Value) (d : Option Addr) : Prop :=
  mg c = some cls ∧ ((xs = [] ∧ d = none) ∨ ∃ dd x v, xs = [x] ∧ d = some dd ∧ H dd = some (.xd [("row", v)]) ∧ Rep K Z H x v [])
abbrev M (α : Type) := Env → Out α
def Out.bind {α β : Type} (r : Out α) (f : α → Env → Out β) : Out β := match r with
  | .ok a env => f a env
  | .exc c x env => .exc c x env
  | .bad => .bad
def PostX (K : PySem.W.Frag) (TB : List Addr) (mg : Str → Option Value) (W : WX) (F : Fx) (σ : List (Option V)) (tm : Tm) (c : Str) (xs : List PV) (env' : Env) (Z : Hp) (O : List Addr) (H : Hp) : Prop :=
  ∀ cls d H' Z' O', Step TB Z O H Z' O' H' → Sim K TB F env' σ tm Z' H' O' → ExcR mg K Z' H' c xs cls d → W cls d σ H'
def PostE (K : PySem.W.Frag) (TB : List Addr) (mg : Str → Option Value) (W : WX) (F : Fx) (σ : List (Option V)) (tm : Tm) (r : Out PV) (Z : Hp) (O : List Addr) (H : Hp) (Q : VK) : Prop := match r with
  | .ok x env' => ∀ v H' Z' O', Step TB Z O H Z' O' H' → Sim K TB F env' σ (tm ++ [(x, v)]) Z' H' O' → Q v H'
  | .exc c xs env' => PostX K TB mg W F σ tm c xs env' Z O H
  | .bad => False
def tE (K : PySem.W.Frag) (TB : List Addr) (mg : Str → Option Value) (W : WX) (m : M PV) : TE := fun σ H Q => ∃ F env tm Z O, Sim K TB F env σ tm Z H O ∧ PostE K TB mg W F σ tm (m env) Z O H Q
def PostT (K : PySem.W.Frag) (TB : List Addr) (mg : Str → Option Value) (W : WX) (F : Fx) (σ : List (Option V)) (tm : Tm) (r : Out Bool) (Z : Hp) (O : List Addr) (H : Hp) (Q : Bool → Hp → Prop) : Prop := match r with
  | .ok b env' => ∀ H' Z' O', Step TB Z O H Z' O' H' → Sim K TB F env' σ tm Z' H' O' → Q b H'
  | .exc c xs env' => PostX K TB mg W F σ tm c xs env' Z O H
  | .bad => False
def tT (K : PySem.W.Frag) (TB : List Addr) (mg : Str → Option Value) (W : WX) (m : M Bool) : TT := fun σ H Q => ∃ F env tm Z O, Sim K TB F env σ tm Z H O ∧ PostT K TB mg W F σ tm (m env) Z O H Q
theorem conv {X : Cx} {e : Expr} {t t' : TE} (h : PE X e t) (k : ∀ σ H Q, t' σ H Q → t σ H Q) : PE X e t' := ⟨fun pins s σ H Q I q => h.run pins s σ H Q I (k σ H Q q)⟩
theorem convT {X : Cx} {e : Expr} {t t' : TT} (h : PT X e t) (k : ∀ σ H Q, t' σ H Q → t σ H Q) : PT X e t' := ⟨fun pins s σ H Q I q => h.run pins s σ H Q I (k σ H Q q)⟩
theorem convW {X : Cx} {e : Expr} {t t' : TT} (h : PW X e t) (k : ∀ σ H Q, t' σ H Q → t σ H Q) : PW X e t' := ⟨fun wh pins s σ H Q I q => h.run wh pins s σ H Q I (k σ H Q q)⟩
theorem convS {X : Cx} {e : Stmt} {t t' : TS} (h : PS X e t) (k : ∀ D σ H, t' D σ H → t D σ H) : PS X e t' := ⟨fun pins s σ H D I q => h.run pins s σ H D I (k D σ H q)⟩
theorem convSs {X : Cx} {e : List Stmt} {t t' : TS} (h : PSs X e t) (k : ∀ D σ H, t' D σ H → t D σ H) : PSs X e t' := ⟨fun pins s σ H D I q => h.run pins s σ H D I (k D σ H q)⟩
/-- an exception's end from a later state -/
theorem PostX.later {mg : Str → Option Value} {W : WX} {c : Str} {xs : List PV} (p : PostX K TB mg W F σ tm c xs env' Z O H) {Z1 : Hp} {O1 : List Addr} {H1 : Hp} (s : Step TB Z O H Z1 O1 H1) : PostX K TB mg W F σ tm c xs env' Z1 O1 H1 :=
  fun cls d H' Z' O' st sm er => p cls d H' Z' O' (s.trans st) sm er
/-- .. with temporaries put away -/
theorem PostX.drop {mg : Str → Option Value} {W : WX} {c : Str} {xs : List PV} (p : PostX K TB mg W F σ tm c xs env' Z O H) : PostX K TB mg W F σ (tm ++ ts) c xs env' Z O H :=
  fun cls d H' Z' O' st sm er => by
    obtain ⟨O2, s2, sm2⟩ := sm.dropTm
    exact p cls d H' Z' O2 (st.trans s2) sm2 er
/-! ### operands: a slot by its number (read where the operation is done), or what is reckoned -/
inductive Op where
  | v (i : Nat)
  | m (m : M PV)
def evOps : List Op → Env → Out (List (Option PV))
  | [], env => .ok [] env
  | .v i :: r, env => match env[i]? with
    | some (some _) => (evOps r env).bind fun l env' => .ok (none :: l) env'
    | _ => .bad
  | .m m :: r, env => (m env).bind fun x env1 => (evOps r env1).bind fun l env2 => .ok (some x :: l) env2
def look : List Op → List (Option PV) → Env → Option (List PV)
  | [], [], _ => some []
  | .v i :: r, _ :: l, env => match env[i]? with
    | some (some (_, x)) => (look r l env).map (x :: ·)
    | _ => none
  | .m _ :: r, some x :: l, env => (look r l env).map (x.frz :: ·)
  | _, _, _ => none
def eOp (f : List PV → Option PV) (ops : List Op) : M PV := fun env => (evOps ops env).bind fun l env' => match look ops l env' with
  | some xs => match f xs with
    | some z => .ok z env'
    | none => .bad
  | none => .bad
def eOpT (f : List PV → Option Bool) (ops : List Op) : M Bool := fun env => (evOps ops env).bind fun l env' => match look ops l env' with
  | some xs => match f xs with
    | some z => .ok z env'
    | none => .bad
  | none => .bad
def tOpd (K : PySem.W.Frag) (TB : List Addr) (mg : Str → Option Value) (W : WX) : Op → TE
  | .v i => tVar i
  | .m m => tE K TB mg W m
def tOpds (K : PySem.W.Frag) (TB : List Addr) (mg : Str → Option Value) (W : WX) : List Op → TA
  | [] => tNil
  | o :: r => tCons (tOpd K TB mg W o) (tOpds K TB mg W r)
/-- the operands' values: of slots what stands there, of the others the temporaries -/
inductive Got (σ : List (Option V)) : List Op → List (Option PV) → List V → Tm → Prop where
  | nil : Got σ [] [] [] []
  | v {i : Nat} {v : V} {ops : List Op} {l : List (Option PV)} {vs : List V} {ts : Tm} (e : σ[i]? = some (some v)) (t : Got σ ops l vs ts) : Got σ (.v i :: ops) (none :: l) (v :: vs) ts
  | m {m : M PV} {x : PV} {v : V} {ops : List Op} {l : List (Option PV)} {vs : List V} {ts : Tm} (t : Got σ ops l vs ts) : Got σ (.m m :: ops) (some x :: l) (v :: vs) ((x, v) :: ts)
def PostL (K : PySem.W.Frag) (TB : List Addr) (mg : Str → Option Value) (W : WX) (F : Fx) (σ : List (Option V)) (tm : Tm) (ops : List Op) (r : Out (List (Option PV))) (Z : Hp) (O : List Addr) (H : Hp) (Q : List V → Hp → Prop) : Prop := match r with
  | .ok l env' => ∀ vs ts H' Z' O', Step TB Z O H Z' O' H' → Sim K TB F env' σ (tm ++ ts) Z' H' O' → Got σ ops l vs ts → Q vs H'
  | .exc c xs env' => PostX K TB mg W F σ tm c xs env' Z O H
  | .bad => False
/-- a slot that stands ahead stands behind -/
def OpsIn (env : Env) (ops : List Op) : Prop := ∀ i, Op.v i ∈ ops → ∃ k x, env[i]? = some (some (k, x))
/-- every slot that an operand names stands there -/
theorem evOps_ok {mg : Str → Option Value} {W : WX} : ∀ (ops : List Op) {tm : Tm} {env : Env} {Z H : Hp} {O : List Addr} {Q : List V → Hp → Prop}, Sim K TB F env σ tm Z H O →
    PostL K TB mg W F σ tm ops (evOps ops env) Z O H Q → tOpds K TB mg W ops σ H Q
  | [], tm, env, Z, H, O, Q, s, p => p [] [] H Z O .refl (by rw [List.append_nil]; exact s) .nil
  | .v i :: ops, tm, env, Z, H, O, Q, s, p => by
    unfold evOps at p
    split at p
    · rename_i kx e
      have e' : (env ++ tmE tm)[i]? = some (some (kx.1, kx.2)) := by
        rw [List.getElem?_append_left (List.getElem?_eq_some_iff.mp e).1]
        exact e
      obtain ⟨v, A, ev, r⟩ := s.sl.get s.good.lb e'
      have ev' : σ[i]? = some (some v) := by
        have hi : i < σ.length := by rw [← s.len]; exact (List.getElem?_eq_some_iff.mp e).1
        rw [List.getElem?_append_left hi] at ev
        exact ev
      refine ⟨v, ev', ?_⟩
      refine evOps_ok (mg := mg) (W := W) ops s ?_
      cases q : evOps ops env with
      | ok l env' =>
        rw [q] at p
        exact fun vs ts H' Z' O' st sm g => p (v :: vs) ts H' Z' O' st sm (.v ev' g)
      | exc c xs env' =>
        rw [q] at p
        exact p
      | bad =>
        rw [q] at p
        exact p
    · exact p.elim
  | .m m :: ops, tm, env, Z, H, O, Q, s, p => by
    refine ⟨F, env, tm, Z, O, s, ?_⟩
    unfold evOps at p
    cases q : m env with
    | ok x env1 =>
      rw [q] at p
      intro v H1 Z1 O1 st1 sm1
      refine evOps_ok (mg := mg) (W := W) ops sm1 ?_
      cases q2 : evOps ops env1 with
      | ok l env2 =>
        have p2 : PostL K TB mg W F σ tm (.m m :: ops) (.ok (some x :: l) env2) Z O H Q := by
          have p3 := p
          unfold Out.bind at p3
          simp only [q2] at p3
          exact p3
        intro vs ts H' Z' O' st sm g
        refine p2 (v :: vs) ((x, v) :: ts) H' Z' O' (st1.trans st) ?_ (.m g)
        rw [List.append_assoc] at sm
        exact sm
      | exc c xs env2 =>
        have p2 : PostX K TB mg W F σ tm c xs env2 Z O H := by
          have p3 := p
          unfold Out.bind at p3
          simp only [q2] at p3
          exact p3
        exact (p2.later st1).drop
      | bad =>
        have p3 := p
        unfold Out.bind at p3
        simp only [q2] at p3
        exact p3
    | exc c xs env1 =>
      rw [q] at p
      exact p
    | bad =>
      rw [q] at p
      exact p
/-! ### an operation on operands -/
inductive RepL (K : PySem.W.Frag) (Z H : Hp) : List PV → List V → Prop where
  | nil : RepL K Z H [] []
  | cons {x : PV} {v : V} {xs : List PV} {vs : List V} (A : List Addr) (h : Rep K Z H x v A) (t : RepL K Z H xs vs) : RepL K Z H (x :: xs) (v :: vs)
theorem got_look {ops : List Op} {l : List (Option PV)} {vs : List V} {ts : Tm} (g : Got σ ops l vs ts) : ∀ {xs : List PV}, look ops l env = some xs → Sim K TB F env σ tm Z H O → (∀ p ∈ ts, Rep K Z H p.1.frz p.2 []) → RepL K Z H xs vs := by
  induction g with
  | nil =>
    intro xs h s hr
    have e : [] = xs := Option.some.inj h
    subst e
    exact .nil
  | v e t ih =>
    rename_i i v ops l vs ts
    intro xs h s hr
    unfold look at h
    split at h
    · rename_i k x e2
      cases q : look ops l env with
      | none => rw [q] at h; cases h
      | some ys =>
        rw [q] at h
        have e3 : x :: ys = xs := Option.some.inj h
        subst e3
        have e' : (env ++ tmE tm)[i]? = some (some (k, x)) := by
          rw [List.getElem?_append_left (List.getElem?_eq_some_iff.mp e2).1]
          exact e2
        obtain ⟨w, A, ev, r⟩ := s.sl.get s.good.lb e'
        have hi : i < σ.length := by rw [← s.len]; exact (List.getElem?_eq_some_iff.mp e2).1
        rw [List.getElem?_append_left hi, e] at ev
        cases ev
        exact .cons A r (ih q s hr)
    · cases h
  | m t ih =>
    rename_i m x v ops l vs ts
    intro xs h s hr
    unfold look at h
    cases q : look ops l env with
    | none => rw [q] at h; cases h
    | some ys =>
      rw [q] at h
      have e3 : x.frz :: ys = xs := Option.some.inj h
      subst e3
      exact .cons [] (hr (x, v) (List.mem_cons_self ..)) (ih q s fun p hp => hr p (List.mem_cons_of_mem _ hp))
/-- an operation: what it makes of data, and its reading by values -/
def OkF (K : PySem.W.Frag) (TB : List Addr) (f : List PV → Option PV) (r : List V → Hp → VK → Prop) : Prop :=
  ∀ (Z BH : Hp) (O : List Addr) (H : Hp) (xs : List PV) (vs : List V) (z : PV) (Q : VK), Good TB Z BH O H → RepL K Z H xs vs → f xs = some z → (∀ v H' Z' A, New TB Z H Z' A H' → Rep K Z' H' z v A → Q v H') → r vs H Q
def OkB (K : PySem.W.Frag) (TB : List Addr) (f : List PV → Option Bool) (r : List V → Hp → (Bool → Hp → Prop) → Prop) : Prop :=
  ∀ (Z BH : Hp) (O : List Addr) (H : Hp) (xs : List PV) (vs : List V) (z : Bool) (Q : Bool → Hp → Prop), Good TB Z BH O H → RepL K Z H xs vs → f xs = some z → (∀ H' Z', New TB Z H Z' [] H' → Q z H') → r vs H Q
theorem opsF {mg : Str → Option Value} {W : WX} {f : List PV → Option PV} {r : List V → Hp → VK → Prop} {ops : List Op} {Q : VK} (ok : OkF K TB f r) (h : tE K TB mg W (eOp f ops) σ H Q) : tOpds K TB mg W ops σ H fun vs H1 => r vs H1 Q := by
  obtain ⟨F, env, tm, Z, O, s, p⟩ := h
  refine evOps_ok ops s ?_
  unfold eOp at p
  cases q : evOps ops env with
  | ok l env' =>
    rw [q] at p
    intro vs ts H' Z' O' st sm g
    simp only [Out.bind] at p
    cases q2 : look ops l env' with
    | none => rw [q2] at p; exact p.elim
    | some xs =>
      rw [q2] at p
      simp only at p
      cases q3 : f xs with
      | none => rw [q3] at p; exact p.elim
      | some z =>
        rw [q3] at p
        obtain ⟨Z2, O2, st2, sm2, hr⟩ := sm.frzTm
        refine ok Z2 F.BH O2 H' xs vs z Q sm2.good (got_look g q2 sm2 hr) q3 fun v H3 Z3 A n rr => ?_
        exact p v H3 Z3 (O2 ++ A) (st.trans (st2.trans n.step)) (n.sim sm2 rr)
  | exc c xs env' => rw [q] at p; exact p
  | bad => rw [q] at p; exact p
theorem opsB {mg : Str → Option Value} {W : WX} {f : List PV → Option Bool} {r : List V → Hp → (Bool → Hp → Prop) → Prop} {ops : List Op} {Q : Bool → Hp → Prop} (ok : OkB K TB f r) (h : tT K TB mg W (eOpT f ops) σ H Q) : tOpds K TB mg W ops σ H fun vs H1 => r vs H1 Q := by
  obtain ⟨F, env, tm, Z, O, s, p⟩ := h
  refine evOps_ok ops s ?_
  unfold eOpT at p
  cases q : evOps ops env with
  | ok l env' =>
    rw [q] at p
    intro vs ts H' Z' O' st sm g
    simp only [Out.bind] at p
    cases q2 : look ops l env' with
    | none => rw [q2] at p; exact p.elim
    | some xs =>
      rw [q2] at p
      simp only at p
      cases q3 : f xs with
      | none => rw [q3] at p; exact p.elim
      | some z =>
        rw [q3] at p
        obtain ⟨Z2, O2, st2, sm2, hr⟩ := sm.frzTm
        refine ok Z2 F.BH O2 H' xs vs z Q sm2.good (got_look g q2 sm2 hr) q3 fun H3 Z3 n => ?_
        have st3 := n.step (O := O2)
        rw [List.append_nil] at st3
        exact p H3 Z3 O2 (st.trans (st2.trans st3)) (n.sim0 sm2)
  | exc c xs env' => rw [q] at p; exact p
  | bad => rw [q] at p; exact p
end Ev

set_option Elab.async false
set_option linter.all false
set_option maxRecDepth 100000
set_option maxHeartbeats 2000000
/-! Constants, names, displays. -/
namespace Ev
open PySem PySem.Spec PyProof.Rows L2 GxR Gx
variable {K : PySem.W.Frag} {Z Z' H H' : Hp} {TB : List Addr} {F : Fx} {env env' : Env} {σ : List (Option V)} {tm ts : Tm} {O O' : List Addr} {mg : Str → Option Value} {W : WX} {Q : VK}
def eC (x : PV) : M PV := fun env => .ok x env
theorem Sim.push {x : PV} {v : V} (s : Sim K TB F env σ tm Z H O) (r : Rep K Z H x v []) : Sim K TB F env σ (tm ++ [(x, v)]) Z H O := by
  have q := (New.refl s.good).sim s r
  rw [List.append_nil] at q
  exact q
theorem tE_c {x : PV} {v : V} (r : ∀ Z H, Rep K Z H x v []) (h : tE K TB mg W (eC x) σ H Q) : tC v σ H Q := by
  obtain ⟨F, env, tm, Z, O, s, p⟩ := h
  exact p v H Z O .refl (s.push (r Z H))
section
variable {X : Cx} {pos : Pos}
theorem se_int {i : Int} {j} : PE X (.Constant (.int i) j pos) (tE X.K TB X.mg W (eC (.int i))) := conv pe_int fun _ _ _ => tE_c fun _ _ => .int i
theorem se_bl {b : Bool} {j} : PE X (.Constant (.bool b) j pos) (tE X.K TB X.mg W (eC (.bl b))) := conv pe_bl fun _ _ _ => tE_c fun _ _ => .bl b
theorem se_non {j} : PE X (.Constant .none j pos) (tE X.K TB X.mg W (eC .non)) := conv pe_non fun _ _ _ => tE_c fun _ _ => .non
theorem se_str {z : Str} {j} : PE X (.Constant (.str z) j pos) (tE X.K TB X.mg W (eC (.str z))) := conv pe_str fun _ _ _ => tE_c fun _ _ => .str z
theorem se_glob {x : Str} {v : V} {u : Value} {a : PV} (hg : Gl X x) (hm : X.mg x = some u) (r : RelV v u) (ra : ∀ Z H, Rep X.K Z H a v []) (hd : (x == ("__debug__" : Str)) = false := by decide) : PE X (.Name x pos) (tE X.K TB X.mg W (eC a)) :=
  conv (pe_glob hg hm r hd) fun _ _ _ => tE_c ra
end
/-! ### permutations of what is owned -/
theorem Good.perm {BH : Hp} (g : Good TB Z BH O H) (p : O.Perm O') : Good TB Z BH O' H :=
  ⟨g.le, fun a ha => g.nz a (p.mem_iff.mpr ha), p.nodup_iff.mp g.nd, g.tb, g.tz, g.lb, fun a ha => g.nb a (p.mem_iff.mpr ha), g.bt⟩
theorem Step.perm {Z1 H1 : Hp} {O1 O2 : List Addr} (s : Step TB Z O H Z1 O1 H1) (p : O1.Perm O2) : Step TB Z O H Z1 O2 H1 :=
  ⟨s.z, s.keep, fun a ha => s.own a (p.mem_iff.mpr ha), s.zn, s.dom⟩
theorem Step.sub {Z1 H1 : Hp} {O1 O2 : List Addr} (s : Step TB Z O H Z1 O1 H1) (p : ∀ a ∈ O2, a ∈ O1) : Step TB Z O H Z1 O2 H1 :=
  ⟨s.z, s.keep, fun a ha => s.own a (p a ha), s.zn, s.dom⟩
theorem set_self {α : Type} {l : List α} {i : Nat} {a : α} (h : l[i]? = some a) : l.set i a = l := by
  obtain ⟨hi, e⟩ := List.getElem?_eq_some_iff.mp h
  rw [← e]
  exact List.set_getElem_self hi
theorem in_app {α : Type} {l r : List α} {i : Nat} {a : α} (h : l[i]? = some a) : (l ++ r)[i]? = some a := by
  rw [List.getElem?_append_left (List.getElem?_eq_some_iff.mp h).1]
  exact h
theorem of_app {α : Type} {l r : List α} {i : Nat} {a : α} (hi : i < l.length) (h : (l ++ r)[i]? = some a) : l[i]? = some a := by
  rw [List.getElem?_append_left hi] at h
  exact h
theorem lt_of_some {α : Type} {l : List α} {i : Nat} {a : α} (h : l[i]? = some a) : i < l.length := (List.getElem?_eq_some_iff.mp h).1
/-- what stands in a slot -/
theorem Sim.get {i : Nat} {k : Kd} {x : PV} (s : Sim K TB F env σ tm Z H O) (e : env[i]? = some (some (k, x))) : ∃ v A, σ[i]? = some (some v) ∧ Rep K Z H x v A := by
  obtain ⟨v, A, ev, r⟩ := s.sl.get s.good.lb (in_app e)
  exact ⟨v, A, of_app (by rw [← s.len]; exact lt_of_some e) ev, r⟩
/-- a slot of one's own is frozen -/
theorem Sim.frzAt {i : Nat} {x : PV} (s : Sim K TB F env σ tm Z H O) (e : env[i]? = some (some (.own, x))) :
    ∃ v Z' O', σ[i]? = some (some v) ∧ Step TB Z O H Z' O' H ∧ Sim K TB F (env.set i (some (.own, x.frz))) σ tm Z' H O' ∧ Rep K Z' H x.frz v [] := by
  obtain ⟨v, A, O1, O2, ev, r, rfl, f⟩ := s.sl.at_own (by decide) (in_app (r := tmE tm) e)
  have ev' : σ[i]? = some (some v) := of_app (by rw [← s.len]; exact lt_of_some e) ev
  have nt : ∀ a ∈ A, a ∉ TB := fun a ha => not_tb s.good.tb (r.notab a ha)
  obtain ⟨g, zl, st⟩ := s.good.frz nt
  have r2 : Rep K (zup Z H A) H x.frz v [] := r.frz zl fun a ha => zup_in ha
  refine ⟨v, zup Z H A, O1 ++ O2, ev', st, ⟨by rw [List.length_set]; exact s.len, g, ?_, fun j w hj => ?_⟩, r2⟩
  · have q := f (zup Z H A) H (some (.own, x.frz)) (some v) [] zl (fun a _ o h => h) (.own (A := []) (O := []) (by decide) r2 .nil)
    rw [List.append_nil, List.set_append_left _ _ (lt_of_some e), List.set_append_left _ _ (lt_of_some ev'), set_self ev'] at q
    exact q
  · obtain ⟨h1, y, h2⟩ := s.io j w hj
    refine ⟨h1, y, ?_⟩
    have ne : i ≠ j := fun z => by
      subst z
      rw [e] at h2
      cases h2
    rw [List.getElem?_set_ne ne]
    exact h2
/-- a slot of one's own becomes a temporary -/
theorem Sim.moveAt {i : Nat} {x : PV} (s : Sim K TB F env σ tm Z H O) (e : env[i]? = some (some (.own, x))) :
    ∃ v O', σ[i]? = some (some v) ∧ Step TB Z O H Z O' H ∧ Sim K TB F (env.set i none) σ (tm ++ [(x, v)]) Z H O' := by
  obtain ⟨v, A, O1, O2, ev, r, rfl, f⟩ := s.sl.at_own (by decide) (in_app (r := tmE tm) e)
  have ev' : σ[i]? = some (some v) := of_app (by rw [← s.len]; exact lt_of_some e) ev
  have pm : (O1 ++ A ++ O2).Perm (O1 ++ O2 ++ A) := by
    rw [List.append_assoc, List.append_assoc]
    exact List.Perm.append_left O1 List.perm_append_comm
  refine ⟨v, O1 ++ O2 ++ A, ev', Step.refl.perm pm, ⟨by rw [List.length_set]; exact s.len, s.good.perm pm, ?_, fun j w hj => ?_⟩⟩
  · have q := f Z H none (some v) [] .refl (fun a _ o h => h) (.non _ .nil)
    rw [List.append_nil, List.set_append_left _ _ (lt_of_some e), List.set_append_left _ _ (lt_of_some ev'), set_self ev'] at q
    have q2 : Slots K Z F.BH H [some (Kd.own, x)] [some v] (A ++ []) := .own (by decide) r .nil
    rw [List.append_nil] at q2
    have q3 := q.app q2
    have e1 : env.set i none ++ tmE (tm ++ [(x, v)]) = (env.set i none ++ tmE tm) ++ [some (Kd.own, x)] := by simp [List.append_assoc]
    have e2 : σ ++ tmV (tm ++ [(x, v)]) = (σ ++ tmV tm) ++ [some v] := by simp [List.append_assoc]
    rw [e1, e2]
    exact q3
  · obtain ⟨h1, y, h2⟩ := s.io j w hj
    refine ⟨h1, y, ?_⟩
    have ne : i ≠ j := fun z => by
      subst z
      rw [e] at h2
      cases h2
    rw [List.getElem?_set_ne ne]
    exact h2
/-- a name as a value: what is the frame's own is frozen -/
def eVar (i : Nat) : M PV := fun env => match env[i]? with
  | some (some (k, x)) => if x.free then .ok x env else match k with
    | .own => .ok x.frz (env.set i (some (.own, x.frz)))
    | _ => .bad
  | _ => .bad
theorem tE_var {i : Nat} (h : tE K TB mg W (eVar i) σ H Q) : tVar i σ H Q := by
  obtain ⟨F, env, tm, Z, O, s, p⟩ := h
  unfold eVar at p
  split at p
  · rename_i k x e
    split at p
    · rename_i hf
      obtain ⟨v, A, ev, r⟩ := s.get e
      rw [r.nil_of_free hf] at r
      exact ⟨v, ev, p v H Z O .refl (s.push r)⟩
    · cases k with
      | own =>
        obtain ⟨v, Z', O', ev, st, sm, r⟩ := s.frzAt e
        exact ⟨v, ev, p v H Z' O' st (sm.push r)⟩
      | io => exact p.elim
      | bor => exact p.elim
  · exact p.elim
section
variable {X : Cx} {pos : Pos}
theorem se_var {i : Nat} {x : Str} (hN : X.N[i]? = some x) (hv : Vis X.env.scope x) (hd : (x == ("__debug__" : Str)) = false := by decide) (hcd : (x == ("__classdict__" : Str)) = false := by decide) : PE X (.Name x pos) (tE X.K TB X.mg W (eVar i)) :=
  conv (pe_var hN hv hd hcd) fun _ _ _ => tE_var
end
/-! ### lists of values -/
def evL : List (M PV) → Env → Out (List PV)
  | [], env => .ok [] env
  | m :: r, env => (m env).bind fun x env1 => (evL r env1).bind fun l env2 => .ok (x :: l) env2
def tEs (K : PySem.W.Frag) (TB : List Addr) (mg : Str → Option Value) (W : WX) : List (M PV) → TA
  | [] => tNil
  | m :: r => tCons (tE K TB mg W m) (tEs K TB mg W r)
def PostV (K : PySem.W.Frag) (TB : List Addr) (mg : Str → Option Value) (W : WX) (F : Fx) (σ : List (Option V)) (tm : Tm) (r : Out (List PV)) (Z : Hp) (O : List Addr) (H : Hp) (Q : List V → Hp → Prop) : Prop := match r with
  | .ok l env' => ∀ (ts : Tm) H' Z' O', Step TB Z O H Z' O' H' → Sim K TB F env' σ (tm ++ ts) Z' H' O' → ts.map (·.1) = l → Q (ts.map (·.2)) H'
  | .exc c xs env' => PostX K TB mg W F σ tm c xs env' Z O H
  | .bad => False
theorem evL_ok : ∀ (ms : List (M PV)) {tm : Tm} {env : Env} {Z H : Hp} {O : List Addr} {Q : List V → Hp → Prop}, Sim K TB F env σ tm Z H O → PostV K TB mg W F σ tm (evL ms env) Z O H Q → tEs K TB mg W ms σ H Q
  | [], tm, env, Z, H, O, Q, s, p => p [] H Z O .refl (by rw [List.append_nil]; exact s) rfl
  | m :: ms, tm, env, Z, H, O, Q, s, p => by
    refine ⟨F, env, tm, Z, O, s, ?_⟩
    unfold evL at p
    cases q : m env with
    | ok x env1 =>
      rw [q] at p
      intro v H1 Z1 O1 st1 sm1
      refine evL_ok ms sm1 ?_
      cases q2 : evL ms env1 with
      | ok l env2 =>
        have p2 : PostV K TB mg W F σ tm (.ok (x :: l) env2) Z O H Q := by
          have p3 := p
          unfold Out.bind at p3
          simp only [q2] at p3
          exact p3
        intro ts H' Z' O' st sm g
        refine p2 ((x, v) :: ts) H' Z' O' (st1.trans st) ?_ (by simp [g])
        rw [List.append_assoc] at sm
        exact sm
      | exc c xs env2 =>
        have p2 : PostX K TB mg W F σ tm c xs env2 Z O H := by
          have p3 := p
          unfold Out.bind at p3
          simp only [q2] at p3
          exact p3
        exact (p2.later st1).drop
      | bad =>
        have p3 := p
        unfold Out.bind at p3
        simp only [q2] at p3
        exact p3
    | exc c xs env1 =>
      rw [q] at p
      exact p
    | bad =>
      rw [q] at p
      exact p
theorem tm_reps {BH : Hp} : ∀ {ts : Tm} {O : List Addr}, Slots K Z BH H (tmE ts) (tmV ts) O → Reps K Z H (ts.map (·.1)) (ts.map (·.2)) O
  | [], _, h => by cases h; exact .nil
  | t :: ts, _, h => by
    cases h with
    | own hk r s => exact .cons r (tm_reps s)
theorem evL_len : ∀ {ms : List (M PV)} {env env' : Env} {l : List PV}, evL ms env = .ok l env' → l.length = ms.length
  | [], env, env', l, h => by cases h; rfl
  | m :: ms, env, env', l, h => by
    unfold evL at h
    cases q : m env with
    | ok x env1 =>
      rw [q] at h
      simp only [Out.bind] at h
      cases q2 : evL ms env1 with
      | ok l2 env2 =>
        rw [q2] at h
        simp only at h
        cases h
        simp [evL_len q2]
      | exc c xs env2 => rw [q2] at h; cases h
      | bad => rw [q2] at h; cases h
    | exc c xs env1 => rw [q] at h; cases h
    | bad => rw [q] at h; cases h
/-- a new object: its parts are put together of the last temporaries -/
theorem Sim.made {ts : Tm} {p : Addr} {o : HO} {x : PV} {Zn : Hp} {fr : Bool} (s : Sim K TB F env σ (tm ++ ts) Z H O) (hp : H p = none) (hZ : Zn = if fr then upd Z p o else Z)
    (mk : ∀ A, Reps K Zn (upd H p o) (ts.map (·.1)) (ts.map (·.2)) A → Rep K Zn (upd H p o) x (.ref p) (if fr then A else p :: A)) :
    ∃ O', Step TB Z O H Zn O' (upd H p o) ∧ Sim K TB F env σ (tm ++ [(x, .ref p)]) Zn (upd H p o) O' := by
  obtain ⟨O1, O2, rfl, s1, s2⟩ := s.splitTm
  have zp : Z p = none := by
    cases e : Z p with
    | none => rfl
    | some u => have := s.good.le p u e; rw [hp] at this; cases this
  have zl : Le Z Zn := fun a u e => by
    subst hZ
    cases fr with
    | true => show upd Z p o a = some u; rw [upd_ne (ne_of_none e zp)]; exact e
    | false => exact e
  have hl : ∀ a u, H a = some u → upd H p o a = some u := fun a u e => by rw [upd_ne (ne_of_none e hp)]; exact e
  have zn : ∀ a, Zn a ≠ none → Z a ≠ none ∨ (a = p ∧ fr = true) := fun a h => by
    subst hZ
    cases fr with
    | true =>
      by_cases e : a = p
      · exact .inr ⟨e, rfl⟩
      · have h2 : upd Z p o a ≠ none := h
        rw [upd_ne e] at h2; exact .inl h2
    | false => exact .inl h
  have zle : Le Zn (upd H p o) := fun a u e => by
    subst hZ
    cases fr with
    | true =>
      by_cases e2 : a = p
      · subst e2
        have e3 : upd Z a o a = some u := e
        rw [upd_same] at e3 ⊢; exact e3
      · have e3 : upd Z p o a = some u := e
        rw [upd_ne e2] at e3 ⊢; exact s.good.le a u e3
    | false => exact hl a u (s.good.le a u e)
  have zo : ∀ a, H a ≠ none → Z a = none → Zn a = none := fun a h1 h2 => by
    cases e : Zn a with
    | none => rfl
    | some u =>
      rcases zn a (by rw [e]; intro q; cases q) with q | ⟨rfl, _⟩
      · exact absurd h2 q
      · exact absurd hp h1
  have g := s.good
  have rs : Reps K Zn (upd H p o) (ts.map (·.1)) (ts.map (·.2)) O2 := (tm_reps s2).mono zl fun a ha u e => hl a u e
  have r := mk O2 rs
  have at1 : ∀ a ∈ O1 ++ O2, H a ≠ none := fun a ha => (List.mem_append.mp ha).elim (s1.at_ a) (s2.at_ a)
  have np : p ∉ O1 ++ O2 := fun m => at1 p m hp
  have e1 : env ++ tmE (tm ++ [(x, V.ref p)]) = (env ++ tmE tm) ++ [some (Kd.own, x)] := by simp [List.append_assoc]
  have e2 : σ ++ tmV (tm ++ [(x, V.ref p)]) = (σ ++ tmV tm) ++ [some (V.ref p)] := by simp [List.append_assoc]
  have fin : ∀ A, Rep K Zn (upd H p o) x (.ref p) A → Slots K Zn F.BH (upd H p o) (env ++ tmE (tm ++ [(x, V.ref p)])) (σ ++ tmV (tm ++ [(x, V.ref p)])) (O1 ++ A) := fun A rr => by
    rw [e1, e2]
    have q2 : Slots K Zn F.BH (upd H p o) [some (Kd.own, x)] [some (V.ref p)] (A ++ []) := .own (by decide) rr .nil
    rw [List.append_nil] at q2
    exact (s1.mono zl fun a _ u e => hl a u e).app q2
  have dom : ∀ a, H a ≠ none → upd H p o a ≠ none := fun a h => by
    cases e : H a with
    | none => exact absurd e h
    | some u => rw [hl a u e]; intro q; cases q
  have tb : ∀ t ∈ TB, TabG (upd H p o) t := fun t ht => tab_keep (g.tb t ht) hl
  have tz : ∀ t ∈ TB, Zn t = none := fun t ht => zo t (tab_there (g.tb t ht)) (g.tz t ht)
  have lb : Le F.BH (upd H p o) := fun a u e => hl a u (g.lb a u e)
  have bp : F.BH p = none := by
    cases e : F.BH p with
    | none => rfl
    | some u => have := g.lb p u e; rw [hp] at this; cases this
  have keep : ∀ a u, H a = some u → a ∉ O1 ++ O2 → a ∉ TB → upd H p o a = some u := fun a u e _ _ => hl a u e
  have zn' : ∀ a, Zn a ≠ none → Z a ≠ none ∨ a ∈ O1 ++ O2 ∨ H a = none := fun a h => (zn a h).imp id fun z => .inr (by rw [z.1]; exact hp)
  cases fr with
  | true =>
    refine ⟨O1 ++ O2, ⟨zl, keep, fun a ha => .inl ha, zn', dom⟩, ⟨s.len, ⟨zle, fun a ha => zo a (at1 a ha) (g.nz a ha), g.nd, tb, tz, lb, g.nb, g.bt⟩, fin O2 r, s.io⟩⟩
  | false =>
    have pm : (O1 ++ p :: O2).Perm (p :: (O1 ++ O2)) := List.perm_middle
    refine ⟨O1 ++ p :: O2, ⟨zl, keep, fun a ha => ?_, zn', dom⟩, ⟨s.len, ⟨zle, fun a ha => ?_, ?_, tb, tz, lb, fun a ha => ?_, g.bt⟩, fin _ r, s.io⟩⟩
    · rcases List.mem_cons.mp (pm.mem_iff.mp ha) with rfl | h
      · exact .inr hp
      · exact .inl h
    · rcases List.mem_cons.mp (pm.mem_iff.mp ha) with rfl | h
      · subst hZ; exact zp
      · exact zo a (at1 a h) (g.nz a h)
    · exact pm.nodup_iff.mpr (List.nodup_cons.mpr ⟨np, g.nd⟩)
    · rcases List.mem_cons.mp (pm.mem_iff.mp ha) with rfl | h
      · exact bp
      · exact g.nb a h
def eTup (ms : List (M PV)) : M PV := fun env => (evL ms env).bind fun l env' => .ok (.tup l) env'
def eLst (ms : List (M PV)) : M PV := fun env => (evL ms env).bind fun l env' => .ok (.lst true l) env'
theorem tE_tup {ms : List (M PV)} (hl : ms.length ≤ sizeLine) (h : tE K TB mg W (eTup ms) σ H Q) : tTup (tEs K TB mg W ms) σ H Q := by
  obtain ⟨F, env, tm, Z, O, s, p⟩ := h
  refine evL_ok ms s ?_
  unfold eTup at p
  cases q : evL ms env with
  | ok l env' =>
    rw [q] at p
    intro ts H' Z' O' st sm g
    have ln := evL_len q
    refine ⟨?_, fun a ha => ?_⟩
    · have e3 : ts.length = ms.length := by rw [← ln, ← g, List.length_map]
      rw [List.length_map, e3] <;> exact hl
    · obtain ⟨O2, st2, sm2⟩ := sm.made (fr := true) (o := .tup (ts.map (·.2))) (x := .tup l) ha rfl (fun A r => by
        rw [g] at r
        exact .tup (SqT.of upd_same) r)
      exact p (.ref a) _ _ O2 (st.trans st2) sm2
  | exc c xs env' => rw [q] at p; exact p
  | bad => rw [q] at p; exact p
theorem tE_lst {ms : List (M PV)} (hl : ms.length ≤ sizeLine) (h : tE K TB mg W (eLst ms) σ H Q) : tLst (tEs K TB mg W ms) σ H Q := by
  obtain ⟨F, env, tm, Z, O, s, p⟩ := h
  refine evL_ok ms s ?_
  unfold eLst at p
  cases q : evL ms env with
  | ok l env' =>
    rw [q] at p
    intro ts H' Z' O' st sm g
    have ln := evL_len q
    refine ⟨?_, fun a ha => ?_⟩
    · have e3 : ts.length = ms.length := by rw [← ln, ← g, List.length_map]
      rw [List.length_map, e3] <;> exact hl
    · obtain ⟨O2, st2, sm2⟩ := sm.made (fr := false) (o := .lst (ts.map (·.2))) (x := .lst true l) ha rfl (fun A r => by
        rw [g] at r
        exact .lstO upd_same r)
      exact p (.ref a) _ _ O2 (st.trans st2) sm2
  | exc c xs env' => rw [q] at p; exact p
  | bad => rw [q] at p; exact p
end Ev

set_option Elab.async false
set_option linter.all false
set_option maxRecDepth 100000
set_option maxHeartbeats 2000000
/-! Statements; what is changed in its place. -/
namespace Ev
open PySem PySem.Spec PyProof.Rows L2 GxR Gx
variable {K : PySem.W.Frag} {Z Z' H H' : Hp} {TB : List Addr} {F : Fx} {env env' : Env} {σ : List (Option V)} {tm ts : Tm} {O O' : List Addr} {mg : Str → Option Value} {W : WX} {Q : VK} {D : Ends}
inductive SOut where
  | nx (env : Env)
  | rt (x : PV) (env : Env)
  | bk (env : Env)
  | ct (env : Env)
  | exc (c : Str) (x : List PV) (env : Env)
  | bad
abbrev SM := Env → SOut
def PostN (K : PySem.W.Frag) (TB : List Addr) (F : Fx) (tm : Tm) (env' : Env) (Z : Hp) (O : List Addr) (H : Hp) (P : L2.St → Hp → Prop) : Prop :=
  ∀ σ' H' Z' O', Step TB Z O H Z' O' H' → Sim K TB F env' σ' tm Z' H' O' → P σ' H'
def PostS (K : PySem.W.Frag) (TB : List Addr) (mg : Str → Option Value) (W : WX) (F : Fx) (tm : Tm) (r : SOut) (Z : Hp) (O : List Addr) (H : Hp) (D : Ends) : Prop := match r with
  | .nx env' => PostN K TB F tm env' Z O H D.nx
  | .rt x env' => ∀ v σ' H' Z' O', Step TB Z O H Z' O' H' → Sim K TB F env' σ' (tm ++ [(x, v)]) Z' H' O' → D.rt v H'
  | .bk env' => PostN K TB F tm env' Z O H D.bk
  | .ct env' => PostN K TB F tm env' Z O H D.ct
  | .exc c xs env' => ∀ σ', PostX K TB mg W F σ' tm c xs env' Z O H
  | .bad => False
def tS (K : PySem.W.Frag) (TB : List Addr) (mg : Str → Option Value) (W : WX) (m : SM) : TS := fun D σ H => ∃ F env tm Z O, Sim K TB F env σ tm Z H O ∧ PostS K TB mg W F tm (m env) Z O H D
theorem PostN.later {P : L2.St → Hp → Prop} (p : PostN K TB F tm env' Z O H P) {Z1 : Hp} {O1 : List Addr} {H1 : Hp} (s : Step TB Z O H Z1 O1 H1) : PostN K TB F tm env' Z1 O1 H1 P :=
  fun σ' H' Z' O' st sm => p σ' H' Z' O' (s.trans st) sm
theorem PostS.later {r : SOut} (p : PostS K TB mg W F tm r Z O H D) {Z1 : Hp} {O1 : List Addr} {H1 : Hp} (s : Step TB Z O H Z1 O1 H1) : PostS K TB mg W F tm r Z1 O1 H1 D := by
  cases r with
  | nx e => exact PostN.later p s
  | rt x e => exact fun v σ' H' Z' O' st sm => p v σ' H' Z' O' (s.trans st) sm
  | bk e => exact PostN.later p s
  | ct e => exact PostN.later p s
  | exc c xs e => exact fun σ' => (p σ').later s
  | bad => exact p
def sSkip : SM := fun env => .nx env
def sBk : SM := fun env => .bk env
def sCt : SM := fun env => .ct env
def sSeq (a b : SM) : SM := fun env => match a env with
  | .nx env' => b env'
  | r => r
def sOf (m : M PV) (f : PV → Env → SOut) : SM := fun env => match m env with
  | .ok x env' => f x env'
  | .exc c xs env' => .exc c xs env'
  | .bad => .bad
def sAsg (i : Nat) (m : M PV) : SM := sOf m fun x env' => match env'[i]? with
  | some (some (.io, _)) => .bad
  | some _ => .nx (env'.set i (some (.own, x)))
  | none => .bad
def sExpr (m : M PV) : SM := sOf m fun _ env' => .nx env'
def sRet (m : M PV) : SM := sOf m fun x env' => .rt x env'
def sRetN : SM := fun env => .rt .non env
/-- return of a name: what is the frame's own goes with it -/
def sRetV (i : Nat) : SM := fun env => match env[i]? with
  | some (some (k, x)) => if x.free then .rt x env else match k with
    | .own => .rt x (env.set i none)
    | _ => .bad
  | _ => .bad
def sIf (c : M Bool) (a b : SM) : SM := fun env => match c env with
  | .ok t env' => if t then a env' else b env'
  | .exc c xs env' => .exc c xs env'
  | .bad => .bad
theorem Sim.store {x : PV} {v : V} {i : Nat} (s : Sim K TB F env σ (tm ++ [(x, v)]) Z H O) (hi : i < env.length) (ni : ∀ y, env[i]? ≠ some (some (.io, y))) :
    ∃ O', Step TB Z O H Z O' H ∧ Sim K TB F (env.set i (some (.own, x))) (σ.set i (some v)) tm Z H O' := by
  obtain ⟨O1, O2, rfl, s1, s2⟩ := s.splitTm
  have hi2 : i < (env ++ tmE tm).length := by rw [List.length_append]; omega
  have q2 : Slots K Z F.BH H [some (Kd.own, x)] [some v] O2 := s2
  obtain ⟨P1, P2, A, rfl, q⟩ := s1.set_ hi2 (some (.own, x)) (some v) O2 q2
  have hσ : i < σ.length := by rw [← s.len]; exact hi
  rw [List.set_append_left _ _ hi, List.set_append_left _ _ hσ] at q
  have sub : ∀ a ∈ P1 ++ O2 ++ P2, a ∈ P1 ++ A ++ P2 ++ O2 := fun a ha => by
    simp only [List.mem_append] at ha ⊢
    rcases ha with (h | h) | h
    · exact .inl (.inl (.inl h))
    · exact .inr h
    · exact .inl (.inr h)
  have nd : (P1 ++ O2 ++ P2).Nodup := by
    have g := s.good.nd
    simp only [List.nodup_append, List.mem_append] at g ⊢
    grind
  have g := s.good
  refine ⟨P1 ++ O2 ++ P2, Step.refl.sub sub, ⟨by simp [s.len], ⟨g.le, fun a ha => g.nz a (sub a ha), nd, g.tb, g.tz, g.lb, fun a ha => g.nb a (sub a ha), g.bt⟩, q, fun j w hj => ?_⟩⟩
  obtain ⟨h1, y, h2⟩ := s.io j w hj
  have ne : i ≠ j := fun z => by
    subst z
    exact ni y h2
  refine ⟨by rw [List.getElem?_set_ne ne]; exact h1, y, ?_⟩
  rw [List.getElem?_set_ne ne]
  exact h2
theorem tS_seq {a b : SM} {σ : L2.St} (h : tS K TB mg W (sSeq a b) D σ H) : tSeq (tS K TB mg W a) (tS K TB mg W b) D σ H := by
  obtain ⟨F, env, tm, Z, O, s, p⟩ := h
  refine ⟨F, env, tm, Z, O, s, ?_⟩
  unfold sSeq at p
  cases q : a env with
  | nx e =>
    rw [q] at p
    exact fun σ' H' Z' O' st sm => ⟨F, e, tm, Z', O', sm, PostS.later p st⟩
  | rt x e => rw [q] at p; exact p
  | bk e => rw [q] at p; exact p
  | ct e => rw [q] at p; exact p
  | exc c xs e => rw [q] at p; exact p
  | bad => rw [q] at p; exact p
theorem tS_skip {σ : L2.St} (h : tS K TB mg W sSkip D σ H) : tNext D σ H := by
  obtain ⟨F, env, tm, Z, O, s, p⟩ := h
  exact p σ H Z O .refl s
/-- a statement over one expression -/
theorem tS_of {m : M PV} {f : PV → Env → SOut} {P : V → Hp → Prop} {σ : L2.St} (h : tS K TB mg W (sOf m f) D σ H)
    (k : ∀ F env' tm x v Z O H, Sim K TB F env' σ (tm ++ [(x, v)]) Z H O → PostS K TB mg W F tm (f x env') Z O H D → P v H) : tE K TB mg W m σ H P := by
  obtain ⟨F, env, tm, Z, O, s, p⟩ := h
  refine ⟨F, env, tm, Z, O, s, ?_⟩
  unfold sOf at p
  cases q : m env with
  | ok x e =>
    rw [q] at p
    exact fun v H' Z' O' st sm => k F e tm x v Z' O' H' sm (PostS.later p st)
  | exc c xs e => rw [q] at p; exact p σ
  | bad => rw [q] at p; exact p
theorem tS_asg {i : Nat} {m : M PV} {σ : L2.St} (h : tS K TB mg W (sAsg i m) D σ H) : tAsg (tE K TB mg W m) (gName i) D σ H := by
  refine tS_of h fun F e tm x v Z O H s p => ?_
  split at p
  · exact p.elim
  · rename_i y hn hy
    obtain ⟨O2, st, sm⟩ := s.store (lt_of_some hy) fun z hz => hn z (by rw [hz] at hy; exact (Option.some.inj hy).symm)
    exact p _ H Z O2 st sm
  · exact p.elim
theorem tS_expr {m : M PV} {σ : L2.St} (h : tS K TB mg W (sExpr m) D σ H) : tDrop (tE K TB mg W m) D σ H := by
  refine tS_of h fun F e tm x v Z O H s p => ?_
  obtain ⟨O2, st, sm⟩ := s.dropTm
  exact p σ H Z O2 st sm
theorem tS_ret {m : M PV} {σ : L2.St} (h : tS K TB mg W (sRet m) D σ H) : tRet (tE K TB mg W m) D σ H :=
  tS_of h fun F e tm x v Z O H s p => p v σ H Z O .refl s
theorem tS_retN {σ : L2.St} (h : tS K TB mg W sRetN D σ H) : tRetN D σ H := by
  obtain ⟨F, env, tm, Z, O, s, p⟩ := h
  exact p .non σ H Z O .refl (s.push .non)
theorem tS_retV {i : Nat} {σ : L2.St} (h : tS K TB mg W (sRetV i) D σ H) : tRet (tVar i) D σ H := by
  obtain ⟨F, env, tm, Z, O, s, p⟩ := h
  unfold sRetV at p
  split at p
  · rename_i k x e
    split at p
    · rename_i hf
      obtain ⟨v, A, ev, r⟩ := s.get e
      rw [r.nil_of_free hf] at r
      exact ⟨v, ev, p v σ H Z O .refl (s.push r)⟩
    · cases k with
      | own =>
        obtain ⟨v, O', ev, st, sm⟩ := s.moveAt e
        exact ⟨v, ev, p v σ H Z O' st sm⟩
      | io => exact p.elim
      | bor => exact p.elim
  · exact p.elim
theorem tS_if {c : M Bool} {a b : SM} {σ : L2.St} (h : tS K TB mg W (sIf c a b) D σ H) : tIfS (tT K TB mg W c) (tS K TB mg W a) (tS K TB mg W b) D σ H := by
  obtain ⟨F, env, tm, Z, O, s, p⟩ := h
  refine ⟨F, env, tm, Z, O, s, ?_⟩
  unfold sIf at p
  cases q : c env with
  | ok t e =>
    rw [q] at p
    intro H' Z' O' st sm
    cases t with
    | true => exact ⟨F, e, tm, Z', O', sm, PostS.later p st⟩
    | false => exact ⟨F, e, tm, Z', O', sm, PostS.later p st⟩
  | exc c xs e => rw [q] at p; exact p σ
  | bad => rw [q] at p; exact p
/-! ### changed in its place -/
/-- one slot's data are changed, by what the last temporaries bring -/
theorem Sim.mut {i : Nat} {k : Kd} {x : PV} (hk : k ≠ .bor) (s : Sim K TB F env σ (tm ++ ts) Z H O) (e : env[i]? = some (some (k, x))) :
    ∃ v A At, σ[i]? = some (some v) ∧ Rep K Z H x v A ∧ Reps K Z H (ts.map (·.1)) (ts.map (·.2)) At ∧ (A ++ At).Nodup ∧
      ∀ (x' : PV) (A' : List Addr) (H' : Hp), Rep K Z H' x' v A' → (∀ a ∈ A', a ∈ A ∨ a ∈ At) → A'.Nodup → (∀ a o, H a = some o → a ∉ A → H' a = some o) → (∀ a, H a ≠ none → H' a ≠ none) →
        ∃ O', Step TB Z O H Z O' H' ∧ Sim K TB F (env.set i (some (k, x'))) σ tm Z H' O' := by
  obtain ⟨O1, O2, rfl, s1, s2⟩ := s.splitTm
  obtain ⟨v, A, P1, P2, ew, r, rfl, f⟩ := s1.at_own hk (in_app (r := tmE tm) e)
  have ev : σ[i]? = some (some v) := of_app (by rw [← s.len]; exact lt_of_some e) ew
  have g := s.good
  have nd := g.nd
  have ndA : (A ++ O2).Nodup := by
    simp only [List.nodup_append, List.mem_append] at nd ⊢
    grind
  refine ⟨v, A, O2, ev, r, tm_reps s2, ndA, fun x' A' H' r' sub nd' kp dm => ?_⟩
  have nt : ∀ a ∈ A, a ∉ TB := fun a ha => not_tb g.tb (r.notab a ha)
  have dj : ∀ a, a ∈ P1 ∨ a ∈ P2 → a ∉ A := fun a ha hA => by
    simp only [List.nodup_append, List.mem_append] at nd
    grind
  have zA : ∀ a ∈ A, Z a = none := fun a ha => g.nz a (by simp only [List.mem_append]; exact .inl (.inl (.inr ha)))
  have bA : ∀ a ∈ A, F.BH a = none := fun a ha => g.nb a (by simp only [List.mem_append]; exact .inl (.inl (.inr ha)))
  have subO : ∀ a ∈ P1 ++ A' ++ P2, a ∈ P1 ++ A ++ P2 ++ O2 := fun a ha => by
    simp only [List.mem_append] at ha ⊢
    rcases ha with (h | h) | h
    · exact .inl (.inl (.inl h))
    · rcases sub a h with h | h
      · exact .inl (.inl (.inr h))
      · exact .inr h
    · exact .inl (.inr h)
  have ndO : (P1 ++ A' ++ P2).Nodup := by
    simp only [List.nodup_append, List.mem_append] at nd ⊢
    grind
  have zk : Le Z H' := fun a o h => kp a o (g.le a o h) fun m => by rw [zA a m] at h; cases h
  have bk : Le F.BH H' := fun a o h => kp a o (g.lb a o h) fun m => by rw [bA a m] at h; cases h
  have tk : ∀ t ∈ TB, TabG H' t := fun t ht => by
    obtain ⟨ps, e2, tr⟩ := g.tb t ht
    exact ⟨ps, kp t _ e2 fun m => nt t m ht, tr⟩
  refine ⟨P1 ++ A' ++ P2, ⟨.refl, fun a o h n _ => kp a o h fun m => n (by simp only [List.mem_append]; exact .inl (.inl (.inr m))), fun a ha => .inl (subO a ha), fun a h => .inl h, dm⟩,
    ⟨by rw [List.length_set]; exact s.len, ⟨zk, fun a ha => g.nz a (subO a ha), ndO, tk, g.tz, bk, fun a ha => g.nb a (subO a ha), g.bt⟩, ?_, fun j w hj => ?_⟩⟩
  · have q := f Z H' (some (k, x')) (some v) A' .refl (fun a ha o h => kp a o h (dj a ha)) (by
      have z : Slots K Z F.BH H' [some (k, x')] [some v] (A' ++ []) := .own hk r' .nil
      rw [List.append_nil] at z
      exact z)
    rw [List.set_append_left _ _ (lt_of_some e), List.set_append_left _ _ (lt_of_some ev), set_self ev] at q
    exact q
  · obtain ⟨h1, y, h2⟩ := s.io j w hj
    by_cases ne : i = j
    · subst ne
      rw [e] at h2
      cases h2
      exact ⟨h1, x', by rw [List.getElem?_set_self (lt_of_some e)]⟩
    · refine ⟨h1, y, ?_⟩
      rw [List.getElem?_set_ne ne]
      exact h2
/-- a method that changes slot i: f takes what stands there and the arguments, gives what stands there then, and what is told -/
def eMut (i : Nat) (ty : PV → Bool) (f : PV → List PV → Option (PV × PV)) (ms : List (M PV)) : M PV := fun env => match env[i]? with
  | some (some (_, x)) => if ty x then (evL ms env).bind fun l env' => match env'[i]? with
      | some (some (k, x)) => if k = .bor then .bad else match f x l with
        | some (x', r) => .ok r (env'.set i (some (k, x')))
        | none => .bad
      | _ => .bad
    else .bad
  | _ => .bad
/-- what a change is by values -/
def OkM (K : PySem.W.Frag) (f : PV → List PV → Option (PV × PV)) (r : V → List V → Hp → VK → Prop) : Prop :=
  ∀ (Z H : Hp) (x x' y : PV) (xs : List PV) (v : V) (vs : List V) (A At : List Addr) (Q : VK), Le Z H → Rep K Z H x v A → Reps K Z H xs vs At → (A ++ At).Nodup → f x xs = some (x', y) →
    (∀ u H' A', Rep K Z H' x' v A' → (∀ a ∈ A', a ∈ A ∨ a ∈ At) → A'.Nodup → (∀ a o, H a = some o → a ∉ A → H' a = some o) → (∀ a, H a ≠ none → H' a ≠ none) → Rep K Z H' y u [] → Q u H') → r v vs H Q
def OkTy (K : PySem.W.Frag) (ty : PV → Bool) (tv : V → Hp → Prop) : Prop := ∀ (Z H : Hp) (x : PV) (v : V) (A : List Addr), Le Z H → Rep K Z H x v A → ty x = true → tv v H
theorem tE_mut {i : Nat} {ty : PV → Bool} {tv : V → Hp → Prop} {f : PV → List PV → Option (PV × PV)} {r : V → List V → Hp → VK → Prop} {ms : List (M PV)} (ot : OkTy K ty tv) (ok : OkM K f r) (h : tE K TB mg W (eMut i ty f ms) σ H Q) :
    tVar i σ H fun v H1 => tv v H1 ∧ tEs K TB mg W ms σ H1 fun vs H2 => r v vs H2 Q := by
  obtain ⟨F, env, tm, Z, O, s, p⟩ := h
  unfold eMut at p
  split at p
  · rename_i k0 x0 e0
    split at p
    · rename_i ht
      obtain ⟨v, A, ev, rp⟩ := s.get e0
      refine ⟨v, ev, ot Z H x0 v A s.good.le rp ht, ?_⟩
      refine evL_ok ms s ?_
      cases q : evL ms env with
      | ok l env' =>
        rw [q] at p
        simp only [Out.bind] at p
        intro ts H' Z' O' st sm g
        split at p
        · rename_i k x e
          split at p
          · exact p.elim
          · rename_i hk
            split at p
            · rename_i x' y ef
              obtain ⟨w, A2, At, ew, r2, rt, nd, fin⟩ := sm.mut hk e
              rw [ev] at ew
              cases ew
              rw [g] at rt
              refine ok Z' H' x x' y l v (ts.map (·.2)) A2 At Q sm.good.le r2 rt nd ef fun u H2 A' r' sub nd' kp dm ry => ?_
              obtain ⟨O3, st3, sm3⟩ := fin x' A' H2 r' sub nd' kp dm
              exact p u H2 Z' O3 (st.trans st3) (sm3.push ry)
            · exact p.elim
        · exact p.elim
      | exc c xs env' => rw [q] at p; exact p
      | bad => rw [q] at p; exact p
    · exact p.elim
  · exact p.elim
/-! ### the list's methods -/
def isLstO : PV → Bool
  | .lst true _ => true
  | _ => false
theorem ty_list : OkTy K isLstO (tyV K "list") := by
  intro Z H x v A lz r h
  cases r with
  | lstO e r => exact .inl ⟨rfl, _, SqL.of e⟩
  | _ => cases h
theorem Reps.snoc {xs : List PV} {vs : List V} {A B : List Addr} {x : PV} {v : V} (h : Reps K Z H xs vs A) (r : Rep K Z H x v B) : Reps K Z H (xs ++ [x]) (vs ++ [v]) (A ++ B) := by
  induction xs generalizing vs A with
  | nil =>
    cases h
    have q : Reps K Z H [x] [v] (B ++ []) := .cons r .nil
    rw [List.append_nil] at q
    exact q
  | cons y ys ih =>
    cases h with
    | cons h t =>
      rw [List.append_assoc]
      exact .cons h (ih t)
def CAP : Nat := 16777216
theorem cap_eq : sizeLine = CAP := sizeLine_eq
def fAppend : PV → List PV → Option (PV × PV)
  | .lst true xs, [y] => if xs.length < CAP then some (.lst true (xs ++ [y]), .non) else none
  | _, _ => none
theorem upd_keep {a : Addr} {o u : HO} {b : Addr} (h : H b = some u) (n : b ≠ a) : upd H a o b = some u := by rw [upd_ne n]; exact h
theorem upd_dom {a b : Addr} {o : HO} (h : H b ≠ none) : upd H a o b ≠ none := by
  by_cases e : b = a
  · subst e; rw [upd_same]; intro q; cases q
  · rw [upd_ne e]; exact h
theorem ok_append : OkM K fAppend rAppend := by
  intro Z H x x' y xs v vs A At Q lz r rs nd hf k
  unfold fAppend at hf
  split at hf
  · rename_i l z
    split at hf
    · rename_i hl
      obtain ⟨rfl, rfl⟩ := Prod.mk.inj (Option.some.inj hf)
      cases r with
      | lstO e r =>
        rename_i a ws A0
        cases rs with
        | cons h t =>
          rename_i u us B C
          cases t
          rw [List.append_nil] at nd
          have lw : ws.length < sizeLine := by rw [← r.length, cap_eq]; exact hl
          have n0 : a ∉ A0 ++ B := (List.nodup_cons.mp nd).1
          refine ⟨a, ws, u, rfl, rfl, e, lw, k .non _ (a :: (A0 ++ B)) (.lstO upd_same ((r.snoc h).mono .refl fun b hb o q => upd_keep q fun z => n0 (z ▸ hb))) (fun b hb => ?_) nd (fun b o q n => upd_keep q fun z => n (by rw [z]; exact List.mem_cons_self ..)) (fun b q => upd_dom q) .non⟩
          simp only [List.mem_cons, List.mem_append, List.append_nil] at hb ⊢
          rcases hb with h | h | h
          · exact .inl (.inl h)
          · exact .inl (.inr h)
          · exact .inr h
    · cases hf
  · cases hf
end Ev

set_option Elab.async false
set_option linter.all false
set_option maxRecDepth 100000
set_option maxHeartbeats 2000000
/-! Targets, loops, comprehensions. -/
namespace Ev
open PySem PySem.Spec PyProof.Rows L2 GxR Gx
variable {K : PySem.W.Frag} {Z Z' H H' : Hp} {TB : List Addr} {F : Fx} {env env' : Env} {σ : List (Option V)} {tm ts : Tm} {O O' : List Addr} {mg : Str → Option Value} {W : WX} {Q : VK} {D : Ends}
/-! ### targets -/
abbrev Bnd := PV → Env → Option Env
def gN (i : Nat) : Bnd := fun x env => match env[i]? with
  | some (some (.io, _)) => none
  | some _ => some (env.set i (some (.own, x)))
  | none => none
def gL : List Bnd → List PV → Env → Option Env
  | [], [], env => some env
  | g :: gs, x :: xs, env => match g x env with
    | some e => gL gs xs e
    | none => none
  | _, _, _ => none
def gT (gs : List Bnd) : Bnd := fun x env => match x with
  | .tup xs => gL gs xs env
  | _ => none
def OkG (K : PySem.W.Frag) (TB : List Addr) (is : List Nat) (g : Bnd) (t : TG) : Prop :=
  ∀ (F : Fx) (env env1 : Env) (σ : L2.St) (tm : Tm) (Z H : Hp) (O : List Addr) (x : PV) (v : V) (P : L2.St → Hp → Prop), Sim K TB F env σ tm Z H O → Rep K Z H x v [] → g x env = some env1 →
    (∀ σ' O', (∀ j, j ∉ is → σ'[j]? = σ[j]?) → σ'.length = σ.length → Step TB Z O H Z O' H → Sim K TB F env1 σ' tm Z H O' → P σ' H) → t v σ H P
def OkGs (K : PySem.W.Frag) (TB : List Addr) (is : List Nat) (gs : List Bnd) (t : TGs) : Prop :=
  ∀ (F : Fx) (env env1 : Env) (σ : L2.St) (tm : Tm) (Z H : Hp) (O : List Addr) (xs : List PV) (vs : List V) (P : L2.St → Hp → Prop), Sim K TB F env σ tm Z H O → Reps K Z H xs vs [] → gL gs xs env = some env1 →
    (∀ σ' O', (∀ j, j ∉ is → σ'[j]? = σ[j]?) → σ'.length = σ.length → Step TB Z O H Z O' H → Sim K TB F env1 σ' tm Z H O' → P σ' H) → t vs σ H P
theorem okG_name {i : Nat} : OkG K TB [i] (gN i) (gName i) := by
  intro F env env1 σ tm Z H O x v P s r hg k
  unfold gN at hg
  split at hg
  · cases hg
  · rename_i y hn hy
    cases hg
    obtain ⟨O2, st, sm⟩ := (s.push r).store (lt_of_some hy) fun z hz => hn z (by rw [hz] at hy; exact (Option.some.inj hy).symm)
    refine k _ O2 (fun j hj => ?_) (by rw [List.length_set]) st sm
    rw [List.getElem?_set_ne fun z => hj (by rw [z]; exact List.mem_singleton.mpr rfl)]
  · cases hg
theorem okGs_nil : OkGs K TB [] [] gNil := by
  intro F env env1 σ tm Z H O xs vs P s r hg k
  generalize hA : ([] : List Addr) = A at r
  cases r with
  | nil =>
    cases hg
    exact ⟨rfl, k σ O (fun _ _ => rfl) rfl .refl s⟩
  | cons h t => cases hg
theorem okGs_cons {is js : List Nat} {g : Bnd} {gs : List Bnd} {t : TG} {u : TGs} (h1 : OkG K TB is g t) (h2 : OkGs K TB js gs u) : OkGs K TB (is ++ js) (g :: gs) (gCons t u) := by
  intro F env env1 σ tm Z H O xs vs P s r hg k
  generalize hA : ([] : List Addr) = A at r
  cases r with
  | nil => cases hg
  | cons h tl =>
    obtain ⟨rfl, rfl⟩ := List.append_eq_nil_iff.mp hA.symm
    simp only [gL] at hg
    split at hg
    · rename_i e he
      refine ⟨_, _, rfl, h1 F env e σ tm Z H O _ _ _ s h he fun σ' O' u1 l1 st1 s1 => ?_⟩
      refine h2 F e env1 σ' tm Z H O' _ _ _ s1 tl hg fun σ2 O2 u2 l2 st2 s2 => ?_
      refine k σ2 O2 (fun j hj => ?_) (l2.trans l1) (st1.trans st2) s2
      rw [u2 j fun m => hj (List.mem_append_right _ m), u1 j fun m => hj (List.mem_append_left _ m)]
    · cases hg
theorem gL_len : ∀ {gs : List Bnd} {xs : List PV} {env env1 : Env}, gL gs xs env = some env1 → xs.length = gs.length
  | [], [], _, _, _ => rfl
  | [], _ :: _, _, _, h => by cases h
  | _ :: _, [], _, _, h => by cases h
  | g :: gs, x :: xs, env, env1, h => by
    simp only [gL] at h
    split at h
    · simp [gL_len h]
    · cases h
theorem okG_tup {is : List Nat} {gs : List Bnd} {u : TGs} {n : Nat} (h : OkGs K TB is gs u) (hn : gs.length = n := by rfl) : OkG K TB is (gT gs) (gTup K n u) := by
  intro F env env1 σ tm Z H O x v P s r hg k
  unfold gT at hg
  split at hg
  · generalize hA : ([] : List Addr) = A at r
    cases r with
    | tup e rs =>
      subst hA
      exact ⟨_, _, rfl, s.good.le.sqT e, by rw [← rs.length, gL_len hg, hn], h F env env1 σ tm Z H O _ _ P s rs hg k⟩
  · cases hg
/-! ### what is walked -/
/-- the walk J yields the items, whatever is done between -/
def JOk (K : PySem.W.Frag) (TB : List Addr) (BH : Hp) (J : It) (Z0 : Hp) (items : List PV) : Prop :=
  ∀ (Z : Hp) (O : List Addr) (H : Hp), Le Z0 Z → Good TB Z BH O H → J.stop items.length H ∧
    ∀ i x, items[i]? = some x → J.go i H ∧ ∀ v H', J.yld i H v H' → ∃ Z', New TB Z H Z' [] H' ∧ Rep K Z' H' x v []
abbrev Src := Env → Out (List PV)
def PostI (K : PySem.W.Frag) (TB : List Addr) (mg : Str → Option Value) (W : WX) (F : Fx) (σ : List (Option V)) (tm : Tm) (r : Out (List PV)) (Z : Hp) (O : List Addr) (H : Hp) (R : It → Hp → Prop) : Prop := match r with
  | .ok items env' => ∀ J H' Z' O', Step TB Z O H Z' O' H' → Sim K TB F env' σ tm Z' H' O' → JOk K TB F.BH J Z' items → R J H'
  | .exc c xs env' => PostX K TB mg W F σ tm c xs env' Z O H
  | .bad => False
def tI (K : PySem.W.Frag) (TB : List Addr) (mg : Str → Option Value) (W : WX) (src : Src) : TI := fun σ H R => ∃ F env tm Z O, Sim K TB F env σ tm Z H O ∧ PostI K TB mg W F σ tm (src env) Z O H R
def mFor (g : Bnd) (body : SM) : List PV → Env → SOut
  | [], env => .nx env
  | x :: r, env => match g x env with
    | none => .bad
    | some env1 => match body env1 with
      | .nx e => mFor g body r e
      | .ct e => mFor g body r e
      | .bk e => .nx e
      | o => o
def sFor (src : Src) (g : Bnd) (body : SM) : SM := fun env => match src env with
  | .ok items env' => mFor g body items env'
  | .exc c xs env' => .exc c xs env'
  | .bad => .bad
theorem tS_for {src : Src} {g : Bnd} {body : SM} {is : List Nat} {tg : TG} {σ : L2.St} (og : OkG K TB is g tg) (h : tS K TB mg W (sFor src g body) D σ H) : tFor (tI K TB mg W src) tg (tS K TB mg W body) D σ H := by
  obtain ⟨F, env, tm, Z, O, s, p⟩ := h
  refine ⟨F, env, tm, Z, O, s, ?_⟩
  unfold sFor at p
  cases q : src env with
  | ok items env1 =>
    rw [q] at p
    intro J H1 Z1 O1 st sm jok
    refine ⟨fun i m σ H => m = items.length - i ∧ i ≤ items.length ∧ ∃ env Z O, Sim K TB F env σ tm Z H O ∧ Le Z1 Z ∧ PostS K TB mg W F tm (mFor g body (items.drop i) env) Z O H D, ⟨_, rfl, Nat.zero_le _, env1, Z1, O1, sm, .refl, PostS.later p st⟩, ?_⟩
    rintro i m σ2 H2 ⟨rfl, hi, env2, Z2, O2, s2, z2, p2⟩
    obtain ⟨hst, hgo⟩ := jok Z2 O2 H2 z2 s2.good
    rcases Nat.lt_or_ge i items.length with lt | ge
    · right
      have hx : items[i]? = some items[i] := List.getElem?_eq_getElem lt
      obtain ⟨go, hy⟩ := hgo i _ hx
      rw [List.drop_eq_getElem_cons lt] at p2
      refine ⟨go, fun σ' H' => items.length - (i + 1) = items.length - (i + 1) ∧ i + 1 ≤ items.length ∧ ∃ env Z O, Sim K TB F env σ' tm Z H' O ∧ Le Z1 Z ∧ PostS K TB mg W F tm (mFor g body (items.drop (i + 1)) env) Z O H' D,
        fun σ' H' hN => ⟨_, Nat.sub_succ_lt_self _ _ lt, hN⟩, fun x H' hyl => ?_⟩
      obtain ⟨Z', nw, r⟩ := hy x H' hyl
      have st3 := nw.step (O := O2)
      rw [List.append_nil] at st3
      have s3 := nw.sim0 s2
      unfold mFor at p2
      split at p2
      · exact p2.elim
      · rename_i env3 hg
        refine og F env2 env3 σ2 tm Z' H' O2 _ x _ s3 r hg fun σ4 O4 _ _ st4 s4 => ?_
        refine ⟨F, env3, tm, Z', O4, s4, ?_⟩
        have st5 : Step TB Z2 O2 H2 Z' O4 H' := st3.trans st4
        have zz : Le Z1 Z' := z2.trans st3.z
        cases hb : body env3 with
        | nx e =>
          rw [hb] at p2
          intro σ6 H6 Z6 O6 st6 s6
          exact ⟨rfl, lt, e, Z6, O6, s6, zz.trans st6.z, PostS.later p2 (st5.trans st6)⟩
        | ct e =>
          rw [hb] at p2
          intro σ6 H6 Z6 O6 st6 s6
          exact ⟨rfl, lt, e, Z6, O6, s6, zz.trans st6.z, PostS.later p2 (st5.trans st6)⟩
        | bk e =>
          rw [hb] at p2
          exact PostN.later p2 st5
        | rt x e =>
          rw [hb] at p2
          exact PostS.later p2 st5
        | exc c xs e =>
          rw [hb] at p2
          exact PostS.later p2 st5
        | bad =>
          rw [hb] at p2
          exact p2
    · left
      obtain rfl : i = items.length := Nat.le_antisymm hi ge
      rw [List.drop_length] at p2
      exact ⟨hst, p2 σ2 H2 Z2 O2 .refl s2⟩
  | exc c xs env1 => rw [q] at p; exact p σ
  | bad => rw [q] at p; exact p
/-! ### while -/
def mWhile (c : M Bool) (body : SM) : Nat → Env → SOut
  | 0, _ => .bad
  | n + 1, env => match c env with
    | .ok true e => match body e with
      | .nx e2 => mWhile c body n e2
      | .ct e2 => mWhile c body n e2
      | .bk e2 => .nx e2
      | o => o
    | .ok false e => .nx e
    | .exc c xs e => .exc c xs e
    | .bad => .bad
theorem tS_while {c : M Bool} {body : SM} {n : Nat} {σ : L2.St} (h : tS K TB mg W (mWhile c body n) D σ H) : tWhile (tT K TB mg W c) (tS K TB mg W body) D σ H := by
  obtain ⟨F, env, tm, Z, O, s, p⟩ := h
  refine ⟨fun m σ H => ∃ env Z O, Sim K TB F env σ tm Z H O ∧ PostS K TB mg W F tm (mWhile c body m env) Z O H D, ⟨n, env, Z, O, s, p⟩, ?_⟩
  rintro m σ1 H1 ⟨env1, Z1, O1, s1, p1⟩
  refine ⟨F, env1, tm, Z1, O1, s1, ?_⟩
  cases m with
  | zero => exact p1.elim
  | succ m =>
    unfold mWhile at p1
    cases q : c env1 with
    | ok b e =>
      rw [q] at p1
      cases b with
      | true =>
        intro H2 Z2 O2 st2 s2
        simp only [if_true]
        refine ⟨fun σ' H' => ∃ env Z O, Sim K TB F env σ' tm Z H' O ∧ PostS K TB mg W F tm (mWhile c body m env) Z O H' D, fun σ' H' hN => ⟨m, Nat.lt_succ_self _, hN⟩, F, e, tm, Z2, O2, s2, ?_⟩
        simp only at p1
        cases hb : body e with
        | nx e2 =>
          rw [hb] at p1
          exact fun σ6 H6 Z6 O6 st6 s6 => ⟨e2, Z6, O6, s6, PostS.later p1 (st2.trans st6)⟩
        | ct e2 =>
          rw [hb] at p1
          exact fun σ6 H6 Z6 O6 st6 s6 => ⟨e2, Z6, O6, s6, PostS.later p1 (st2.trans st6)⟩
        | bk e2 =>
          rw [hb] at p1
          exact PostN.later p1 st2
        | rt x e2 =>
          rw [hb] at p1
          exact PostS.later p1 st2
        | exc c xs e2 =>
          rw [hb] at p1
          exact PostS.later p1 st2
        | bad =>
          rw [hb] at p1
          exact p1
      | false =>
        intro H2 Z2 O2 st2 s2
        rw [if_neg Bool.false_ne_true]
        exact p1 σ1 H2 Z2 O2 st2 s2
    | exc c xs e => rw [q] at p1; exact p1 σ1
    | bad => rw [q] at p1; exact p1
end Ev

set_option Elab.async false
set_option linter.all false
set_option maxRecDepth 100000
set_option maxHeartbeats 2000000
/-! Comprehensions; all, any of a generator expression. -/
namespace Ev
open PySem PySem.Spec PyProof.Rows L2 GxR Gx Gq
variable {K : PySem.W.Frag} {Z Z' H H' : Hp} {TB : List Addr} {F : Fx} {env env' : Env} {σ : List (Option V)} {tm ts : Tm} {O O' : List Addr} {mg : Str → Option Value} {W : WX} {Q : VK} {D : Ends}
def wipeE : Env → List Nat → Option Env
  | env, [] => some env
  | env, v :: vs => match wipeE env vs with
    | some e => match e[v]? with
      | some (some (.io, _)) => none
      | some _ => some (e.set v none)
      | none => none
    | none => none
/-- a slot set to what may be read by all -/
theorem Sim.setFree {i : Nat} {e : Ent} {v : Option V} (s : Sim K TB F env σ tm Z H O) (hi : i < env.length) (ni : ∀ y, env[i]? ≠ some (some (.io, y))) (r : Slots K Z F.BH H [e] [v] []) :
    ∃ O', Step TB Z O H Z O' H ∧ Sim K TB F (env.set i e) (σ.set i v) tm Z H O' := by
  obtain ⟨O1, O2, A, rfl, q⟩ := s.sl.set_ (i := i) (by rw [List.length_append]; omega) e v [] r
  have hσ : i < σ.length := by rw [← s.len]; exact hi
  rw [List.set_append_left _ _ hi, List.set_append_left _ _ hσ, List.append_nil] at q
  have sub : ∀ a ∈ O1 ++ O2, a ∈ O1 ++ A ++ O2 := fun a ha => by
    simp only [List.mem_append] at ha ⊢
    rcases ha with h | h
    · exact .inl (.inl h)
    · exact .inr h
  have nd : (O1 ++ O2).Nodup := by
    have g := s.good.nd
    simp only [List.nodup_append, List.mem_append] at g ⊢
    grind
  have g := s.good
  refine ⟨O1 ++ O2, Step.refl.sub sub, ⟨by simp [s.len], ⟨g.le, fun a ha => g.nz a (sub a ha), nd, g.tb, g.tz, g.lb, fun a ha => g.nb a (sub a ha), g.bt⟩, q, fun j w hj => ?_⟩⟩
  obtain ⟨h1, y, h2⟩ := s.io j w hj
  have ne : i ≠ j := fun z => by
    subst z
    exact ni y h2
  refine ⟨by rw [List.getElem?_set_ne ne]; exact h1, y, ?_⟩
  rw [List.getElem?_set_ne ne]
  exact h2
theorem Sim.wipe : ∀ {vs : List Nat} {e : Env} {O : List Addr}, wipeE env vs = some e → Sim K TB F env σ tm Z H O → ∃ O', Step TB Z O H Z O' H ∧ Sim K TB F e (wipe σ vs) tm Z H O'
  | [], e, O, h, s => by
    cases h
    exact ⟨O, .refl, s⟩
  | v :: vs, e, O, h, s => by
    simp only [wipeE] at h
    split at h
    · rename_i e1 h1
      obtain ⟨O1, st1, s1⟩ := Sim.wipe h1 s
      split at h
      · cases h
      · rename_i y hn hy
        cases h
        obtain ⟨O2, st2, s2⟩ := s1.setFree (lt_of_some hy) (fun z hz => hn z (by rw [hz] at hy; exact (Option.some.inj hy).symm)) (.non none .nil)
        exact ⟨O2, st1.trans st2, s2⟩
      · cases h
    · cases h
def entOf (env : Env) (v : Nat) : Ent := match env[v]? with
  | some e => e
  | none => none
def restE (env1 : Env) : Env → List Nat → Env
  | e, [] => e
  | e, v :: vs => restE env1 (e.set v (entOf env1 v)) vs
def keptE (env : Env) (v : Nat) : Bool := match env[v]? with
  | some none => true
  | some (some (k, x)) => x.free && (k != .io)
  | none => false
theorem Sim.rest {env1 : Env} {σ0 : List (Option V)} : ∀ {vs : List Nat} {e : Env} {O : List Addr}, vs.Nodup → (∀ v ∈ vs, v < σ0.length ∧ ∃ u, σ0[v]? = some u ∧ Slots K Z F.BH H [entOf env1 v] [u] [] ∧ ∀ y, entOf env1 v ≠ some (.io, y)) → (∀ v ∈ vs, ∀ y, e[v]? ≠ some (some (.io, y))) →
    Sim K TB F e (L2.wipe σ0 vs) tm Z H O → ∃ O', Step TB Z O H Z O' H ∧ Sim K TB F (restE env1 e vs) σ0 tm Z H O'
  | [], e, O, nd, hv, hn, s => ⟨O, .refl, s⟩
  | v :: vs, e, O, nd, hv, hn, s => by
    obtain ⟨nv, nd2⟩ := List.nodup_cons.mp nd
    obtain ⟨lt, u, eu, sl, nio⟩ := hv v (List.mem_cons_self ..)
    have l1 : v < e.length := by
      rw [s.len]
      rw [wipe_length]
      exact lt
    obtain ⟨O1, st1, s1⟩ := s.setFree (v := u) l1 (hn v (List.mem_cons_self ..)) sl
    have ew : (L2.wipe σ0 (v :: vs)).set v u = L2.wipe σ0 vs := by
      show ((L2.wipe σ0 vs).set v none).set v u = _
      rw [List.set_set]
      refine set_self ?_
      rw [wipe_out nv]
      exact eu
    rw [ew] at s1
    obtain ⟨O2, st2, s2⟩ := Sim.rest nd2 (fun w hw => hv w (List.mem_cons_of_mem _ hw)) (fun w hw y => by
      by_cases ewv : v = w
      · subst ewv; exact absurd hw nv
      · rw [List.getElem?_set_ne ewv]; exact hn w (List.mem_cons_of_mem _ hw) y) s1
    exact ⟨O2, st1.trans st2, s2⟩
theorem wipe_sub {is vs : List Nat} {σ σ' : L2.St} (l : σ'.length = σ.length) (u : ∀ j, j ∉ is → σ'[j]? = σ[j]?) (h : ∀ i ∈ is, i ∈ vs) : L2.wipe σ' vs = L2.wipe σ vs := by
  refine List.ext_getElem? fun j => ?_
  by_cases hj : j ∈ vs
  · have key : ∀ (ρ : L2.St) (vs : List Nat), j ∈ vs → (L2.wipe ρ vs)[j]? = if j < ρ.length then some none else none := by
      intro ρ vs
      induction vs with
      | nil => intro h; cases h
      | cons v vs ih =>
        intro h
        show ((L2.wipe ρ vs).set v none)[j]? = _
        by_cases e : v = j
        · subst e
          by_cases lt : v < ρ.length
          · rw [if_pos lt, List.getElem?_set_self (by rw [wipe_length]; exact lt)]
          · rw [if_neg lt]
            exact List.getElem?_eq_none (by rw [List.length_set, wipe_length]; omega)
        · rw [List.getElem?_set_ne e]
          exact ih ((List.mem_cons.mp h).resolve_left fun z => e z.symm)
    rw [key σ' vs hj, key σ vs hj, l]
  · rw [wipe_out hj, wipe_out hj]
    exact u j fun m => hj (h j m)
theorem wipe_wipe {vs : List Nat} {σ : L2.St} : L2.wipe (L2.wipe σ vs) vs = L2.wipe σ vs :=
  wipe_sub (is := vs) (wipe_length ..) (fun j hj => wipe_out hj) fun i h => h
/-- the list at a, the first of the last temporaries, gets one more thing, the last one -/
theorem Sim.appT {xs : List PV} {y : PV} {a : Addr} {u : V} (s : Sim K TB F env σ (tm ++ [(.lst true xs, .ref a), (y, u)]) Z H O) :
    ∃ acc, H a = some (.lst acc) ∧ acc.length = xs.length ∧ ∃ O', Step TB Z O H Z O' (upd H a (.lst (acc ++ [u]))) ∧ Sim K TB F env σ (tm ++ [(.lst true (xs ++ [y]), .ref a)]) Z (upd H a (.lst (acc ++ [u]))) O' := by
  obtain ⟨O1, O2, rfl, s1, s2⟩ := s.splitTm
  generalize hS : tmE [(PV.lst true xs, V.ref a), (y, u)] = E at s2
  cases s2 with
  | non v t => cases hS
  | bor h t => cases hS
  | own hk r t =>
    cases hS
    cases r with
    | lstO e r =>
      rename_i acc A0
      cases t with
      | own hk2 r2 t2 =>
        cases t2
        rename_i B
        have g := s.good
        have nd := g.nd
        have eB : a :: A0 ++ (B ++ []) = a :: (A0 ++ B) := by simp
        rw [eB] at g nd ⊢
        have na : a ∉ A0 ++ B := (List.nodup_cons.mp (List.nodup_append.mp nd).2.1).1
        have n1 : a ∉ O1 := fun m => (List.nodup_append.mp nd).2.2 a m a (List.mem_cons_self ..) rfl
        have ta : a ∉ TB := not_tb g.tb (fun ps q => by rw [e] at q; cases q)
        have za : Z a = none := g.nz a (List.mem_append_right _ (List.mem_cons_self ..))
        have ba : F.BH a = none := g.nb a (List.mem_append_right _ (List.mem_cons_self ..))
        have kp : ∀ b o, H b = some o → b ≠ a → upd H a (.lst (acc ++ [u])) b = some o := fun b o h n => upd_keep h n
        have zk : Le Z (upd H a (.lst (acc ++ [u]))) := fun b o h => kp b o (g.le b o h) fun z => by rw [z, za] at h; cases h
        have bk : Le F.BH (upd H a (.lst (acc ++ [u]))) := fun b o h => kp b o (g.lb b o h) fun z => by rw [z, ba] at h; cases h
        refine ⟨acc, e, r.length.symm, O1 ++ a :: (A0 ++ B), ⟨.refl, fun b o h n _ => kp b o h fun z => n (by rw [z]; exact List.mem_append_right _ (List.mem_cons_self ..)), fun b h => .inl h, fun b h => .inl h, fun b h => upd_dom h⟩,
          ⟨s.len, ⟨zk, g.nz, nd, fun t ht => ?_, g.tz, bk, g.nb, g.bt⟩, ?_, s.io⟩⟩
        · obtain ⟨ps, e2, tr⟩ := g.tb t ht
          exact ⟨ps, kp t _ e2 fun z => ta (z ▸ ht), tr⟩
        · have e1 : env ++ tmE (tm ++ [(PV.lst true (xs ++ [y]), V.ref a)]) = (env ++ tmE tm) ++ [some (Kd.own, PV.lst true (xs ++ [y]))] := by simp [List.append_assoc]
          have e2 : σ ++ tmV (tm ++ [(PV.lst true (xs ++ [y]), V.ref a)]) = (σ ++ tmV tm) ++ [some (V.ref a)] := by simp [List.append_assoc]
          rw [e1, e2]
          have rr : Rep K Z (upd H a (.lst (acc ++ [u]))) (.lst true (xs ++ [y])) (.ref a) (a :: (A0 ++ B)) := .lstO upd_same ((r.snoc r2).mono .refl fun b hb o q => kp b o q fun z => na (z ▸ hb))
          have q2 : Slots K Z F.BH (upd H a (.lst (acc ++ [u]))) [some (Kd.own, PV.lst true (xs ++ [y]))] [some (V.ref a)] ((a :: (A0 ++ B)) ++ []) := .own (by decide) rr .nil
          rw [List.append_nil] at q2
          exact (s1.mono .refl fun b hb o q => kp b o q fun z => n1 (z ▸ hb)).app q2
def mLc (vs : List Nat) (g : Bnd) (tt : M Bool) (te : M PV) : List PV → Env → Out (List PV)
  | [], env => match wipeE env vs with
    | some e0 => .ok [] e0
    | none => .bad
  | x :: r, env => match wipeE env vs with
    | none => .bad
    | some e0 => match g x e0 with
      | none => .bad
      | some env1 => match tt env1 with
        | .ok true env2 => match te env2 with
          | .ok y env3 => match mLc vs g tt te r env3 with
            | .ok l e => .ok (y :: l) e
            | _ => .bad
          | _ => .bad
        | .ok false env2 => mLc vs g tt te r env2
        | _ => .bad
def eLc (src : Src) (vs : List Nat) (g : Bnd) (tt : M Bool) (te : M PV) : M PV := fun env => match src env with
  | .ok items env1 => if items.length < CAP ∧ vs.all (keptE env1) = true ∧ vs.Nodup then match mLc vs g tt te items env1 with
      | .ok l env2 => .ok (.lst true l) (restE env1 env2 vs)
      | _ => .bad
    else .bad
  | .exc c xs env1 => .exc c xs env1
  | .bad => .bad
theorem kept_slots {v : Nat} (s : Sim K TB F env σ tm Z H O) (h : keptE env v = true) (z : Le Z Z') : v < σ.length ∧ ∃ u, σ[v]? = some u ∧ Slots K Z' F.BH H' [entOf env v] [u] [] ∧ ∀ y, entOf env v ≠ some (.io, y) := by
  unfold keptE at h
  unfold entOf
  split at h
  · rename_i e
    have lt : v < σ.length := by rw [← s.len]; exact lt_of_some e
    rw [e]
    exact ⟨lt, σ[v], List.getElem?_eq_getElem lt, .non _ .nil, fun y q => by cases q⟩
  · rename_i k x e
    rw [Bool.and_eq_true] at h
    obtain ⟨u, A, ev, r⟩ := s.get e
    rw [r.nil_of_free h.1] at r
    rw [e]
    refine ⟨lt_of_some ev, _, ev, ?_, fun y q => ?_⟩
    · have kn : k ≠ .io := by
        intro q
        rw [q] at h
        simp at h
      cases k with
      | own =>
        have q : Slots K Z' F.BH H' [some (Kd.own, x)] [some u] ([] ++ []) := .own (by decide) (r.mono z fun a ha => by cases ha) .nil
        exact q
      | io => exact absurd rfl kn
      | bor => exact .bor (A := []) (r.mono z fun a ha => by cases ha) .nil
    · simp only [Option.some.injEq, Prod.mk.injEq] at q
      rw [q.1] at h
      simp at h
  · cases h
theorem not_io : ∀ {vs : List Nat} {env e : Env}, wipeE env vs = some e → ∀ v ∈ vs, ∀ y, e[v]? ≠ some (some (Kd.io, y))
  | [], env, e, h => fun v hv => by cases hv
  | w :: vs, env, e, h => by
    simp only [wipeE] at h
    split at h
    · rename_i e1 h1
      split at h
      · cases h
      · rename_i z hn hz
        cases h
        intro v hv y q
        by_cases ev : w = v
        · subst ev
          rw [List.getElem?_set_self (lt_of_some hz)] at q
          cases q
        · rw [List.getElem?_set_ne ev] at q
          exact not_io h1 v ((List.mem_cons.mp hv).resolve_left fun z => ev z.symm) y q
      · cases h
    · cases h
theorem tE_lc {src : Src} {vs is : List Nat} {g : Bnd} {tt : M Bool} {te : M PV} {tg : TG} {tts : TT} {W' : WX} (og : OkG K TB is g tg) (hi : ∀ i ∈ is, i ∈ vs) (ott : ∀ σ H Q, tT K TB mg W' tt σ H Q → tts σ H Q)
    (h : tE K TB mg W (eLc src vs g tt te) σ H Q) : tLc (tI K TB mg W src) tg tts (tE K TB mg W' te) vs σ H Q := by
  obtain ⟨F, env, tm, Z, O, s, p⟩ := h
  refine ⟨F, env, tm, Z, O, s, ?_⟩
  unfold eLc at p
  cases q : src env with
  | exc c xs env1 => rw [q] at p; exact p
  | bad => rw [q] at p; exact p
  | ok items env1 =>
    rw [q] at p
    intro J H1 Z1 O1 st sm jok Da hDa
    simp only at p
    split at p
    · rename_i hc
      obtain ⟨hcap, hkept, hnd⟩ := hc
      cases q2 : mLc vs g tt te items env1 with
      | exc c xs e => rw [q2] at p; exact p.elim
      | bad => rw [q2] at p; exact p.elim
      | ok l env2 =>
        rw [q2] at p
        have sm0 : Sim K TB F env1 σ (tm ++ []) Z1 H1 O1 := by rw [List.append_nil]; exact sm
        obtain ⟨O2, st2, sm2⟩ := sm0.made (fr := false) (o := .lst []) (x := .lst true []) (Zn := Z1) hDa rfl (fun A r => by
          cases r
          exact .lstO upd_same .nil)
        refine ⟨fun i m H => m = items.length - i ∧ i ≤ items.length ∧ ∃ envi σi acc Z O li, Sim K TB F envi σi (tm ++ [(.lst true acc, .ref Da)]) Z H O ∧ L2.wipe σi vs = L2.wipe σ vs ∧ Le Z1 Z ∧ Step TB Z1 O1 H1 Z O H ∧ acc.length ≤ i ∧
            mLc vs g tt te (items.drop i) envi = .ok li env2 ∧ acc ++ li = l, ⟨_, rfl, Nat.zero_le _, env1, σ, [], Z1, O2, l, sm2, rfl, .refl, st2, Nat.le_refl _, q2, rfl⟩, ?_⟩
        rintro i m H3 ⟨rfl, hile, envi, σi, acc, Z3, O3, li, s3, w3, z3, st3, al, hm, el⟩
        obtain ⟨hst, hgo⟩ := jok Z3 O3 H3 z3 s3.good
        rcases Nat.lt_or_ge i items.length with lt | ge
        · right
          have hx : items[i]? = some items[i] := List.getElem?_eq_getElem lt
          obtain ⟨go, hy⟩ := hgo i _ hx
          rw [List.drop_eq_getElem_cons lt] at hm
          refine ⟨go, fun H' => items.length - (i + 1) = items.length - (i + 1) ∧ i + 1 ≤ items.length ∧ ∃ envi σi acc Z O li, Sim K TB F envi σi (tm ++ [(.lst true acc, .ref Da)]) Z H' O ∧ L2.wipe σi vs = L2.wipe σ vs ∧ Le Z1 Z ∧ Step TB Z1 O1 H1 Z O H' ∧ acc.length ≤ i + 1 ∧
            mLc vs g tt te (items.drop (i + 1)) envi = .ok li env2 ∧ acc ++ li = l, fun H' hN => ⟨_, Nat.sub_succ_lt_self _ _ lt, hN⟩, fun x H' hyl => ?_⟩
          obtain ⟨Z', nw, r⟩ := hy x H' hyl
          have st4 := nw.step (O := O3)
          rw [List.append_nil] at st4
          have s4 := nw.sim0 s3
          unfold mLc at hm
          split at hm
          · cases hm
          · rename_i e0 he0
            obtain ⟨O5, st5, s5⟩ := Sim.wipe he0 s4
            rw [w3] at s5
            split at hm
            · cases hm
            · rename_i env4 hg
              refine og F e0 env4 (L2.wipe σ vs) _ Z' H' O5 _ x _ s5 r hg fun σ6 O6 u6 l6 st6 s6 => ?_
              have w6 : L2.wipe σ6 vs = L2.wipe σ vs := (wipe_sub l6 u6 hi).trans wipe_wipe
              refine ⟨w6, ott _ _ _ ⟨F, env4, _, Z', O6, s6, ?_⟩⟩
              have stA : Step TB Z1 O1 H1 Z' O6 H' := ((st3.trans st4).trans st5).trans st6
              cases qt : tt env4 with
              | exc c xs e => rw [qt] at hm; cases hm
              | bad => rw [qt] at hm; cases hm
              | ok b env5 =>
                rw [qt] at hm
                intro H7 Z7 O7 st7 s7
                cases b with
                | false =>
                  rw [if_neg Bool.false_ne_true]
                  exact ⟨rfl, lt, env5, σ6, acc, Z7, O7, li, s7, w6, z3.trans (st4.z.trans st7.z), stA.trans st7, Nat.le_succ_of_le al, hm, el⟩
                | true =>
                  rw [if_pos rfl]
                  refine ⟨F, env5, _, Z7, O7, s7, ?_⟩
                  simp only at hm
                  cases qe : te env5 with
                  | exc c xs e => rw [qe] at hm; cases hm
                  | bad => rw [qe] at hm; cases hm
                  | ok y env6 =>
                    rw [qe] at hm
                    intro u H8 Z8 O8 st8 s8
                    simp only at hm
                    cases qr : mLc vs g tt te (items.drop (i + 1)) env6 with
                    | exc c xs e => rw [qr] at hm; cases hm
                    | bad => rw [qr] at hm; cases hm
                    | ok l2 e2 =>
                      rw [qr] at hm
                      cases hm
                      rw [List.append_assoc] at s8
                      obtain ⟨accV, eA, lA, O9, st9, s9⟩ := s8.appT
                      refine ⟨accV, eA, by rw [lA, cap_eq]; omega, rfl, lt, env6, σ6, acc ++ [y], Z8, O9, l2, s9, w6, z3.trans (st4.z.trans (st7.z.trans st8.z)), ((stA.trans st7).trans st8).trans st9, by rw [List.length_append, List.length_singleton]; omega, qr, ?_⟩
                      rw [← el, List.append_assoc] <;> rfl
        · left
          obtain rfl : i = items.length := Nat.le_antisymm hile ge
          refine ⟨hst, ?_⟩
          rw [List.drop_length] at hm
          unfold mLc at hm
          split at hm
          · rename_i e0 he0
            cases hm
            obtain ⟨O5, st5, s5⟩ := Sim.wipe he0 s3
            rw [w3] at s5
            obtain ⟨O6, st6, s6⟩ := Sim.rest (env1 := env1) hnd (fun v hv => kept_slots sm (List.all_eq_true.mp hkept v hv) z3) (not_io he0) s5
            rw [List.append_nil] at el
            subst el
            exact p (.ref Da) H3 Z3 O6 (st.trans ((st3.trans st5).trans st6)) s6
          · cases hm
    · exact p.elim
end Ev

set_option Elab.async false
set_option linter.all false
set_option maxRecDepth 100000
set_option maxHeartbeats 2000000
namespace Ev
open PySem PySem.Spec PyProof.Rows L2 GxR Gx Gq
variable {K : PySem.W.Frag} {Z Z' H H' : Hp} {TB : List Addr} {F : Fx} {env env' : Env} {σ : List (Option V)} {tm ts : Tm} {O O' : List Addr} {mg : Str → Option Value} {W : WX} {Q : VK} {D : Ends}
/-! ### all, any of a generator expression -/
theorem Sim.tabbed {P : Addr} (s : Sim K TB F env σ tm Z H O) (hP : P ∈ TB) (t : Tabbed P H H') : Step TB Z O H Z O H' ∧ Sim K TB F env σ tm Z H' O := by
  have g := s.good
  have kp : ∀ a o, H a = some o → a ≠ P → H' a = some o := fun a o h n => (t.2 a n).trans h
  have nO : ∀ a ∈ O, a ≠ P := fun a ha z => not_tb g.tb (s.sl.notab a ha) (z ▸ hP)
  have zP := g.tz P hP
  have bP := g.bt P hP
  have dm : ∀ a, H a ≠ none → H' a ≠ none := fun a h => by
    by_cases e : a = P
    · subst e; exact tab_there t.1
    · rw [t.2 a e]; exact h
  refine ⟨⟨.refl, fun a o h _ nt => kp a o h fun z => nt (z ▸ hP), fun a h => .inl h, fun a h => .inl h, dm⟩, ⟨s.len, ⟨?_, g.nz, g.nd, fun u hu => ?_, g.tz, ?_, g.nb, g.bt⟩, s.sl.mono .refl fun a ha o h => kp a o h (nO a ha), s.io⟩⟩
  · intro a o h
    exact kp a o (g.le a o h) fun z => by rw [z, zP] at h; cases h
  · by_cases e : u = P
    · subst e; exact t.1
    · obtain ⟨ps, e2, tr⟩ := g.tb u hu
      exact ⟨ps, kp u _ e2 e, tr⟩
  · intro a o h
    exact kp a o (g.lb a o h) fun z => by rw [z, bP] at h; cases h
def mQ (vs : List Nat) (g : Bnd) (go : Bool) (te : M PV) : List PV → Env → Out Bool
  | [], env => match wipeE env vs with
    | some e0 => .ok go e0
    | none => .bad
  | x :: r, env => match wipeE env vs with
    | none => .bad
    | some e0 => match g x e0 with
      | none => .bad
      | some env1 => match te env1 with
        | .ok (.bl b) env2 => if b = go then mQ vs g go te r env2 else match wipeE env2 vs with
          | some e3 => .ok (!go) e3
          | none => .bad
        | _ => .bad
def eQ (src : Src) (vs : List Nat) (g : Bnd) (go : Bool) (te : M PV) : M PV := fun env => match src env with
  | .ok items env1 => if vs.all (keptE env1) = true ∧ vs.Nodup then match mQ vs g go te items env1 with
      | .ok b env2 => .ok (.bl b) (restE env1 env2 vs)
      | _ => .bad
    else .bad
  | .exc c xs env1 => .exc c xs env1
  | .bad => .bad
theorem tE_q {src : Src} {vs is : List Nat} {g : Bnd} {go : Bool} {te : M PV} {tg : TG} {W' : WX} {P : Addr} (hP : P ∈ TB) (og : OkG K TB is g tg) (hi : ∀ i ∈ is, i ∈ vs)
    (h : tE K TB mg W (eQ src vs g go te) σ H Q) : tQuant go P (tI K TB mg W src) tg (tE K TB mg W' te) vs σ H Q := by
  obtain ⟨F, env, tm, Z, O, s, p⟩ := h
  refine ⟨F, env, tm, Z, O, s, ?_⟩
  unfold eQ at p
  cases q : src env with
  | exc c xs env1 => rw [q] at p; exact p
  | bad => rw [q] at p; exact p
  | ok items env1 =>
    rw [q] at p
    intro J H1 Z1 O1 st sm jok
    simp only at p
    split at p
    · rename_i hc
      obtain ⟨hkept, hnd⟩ := hc
      cases q2 : mQ vs g go te items env1 with
      | exc c xs e => rw [q2] at p; exact p.elim
      | bad => rw [q2] at p; exact p.elim
      | ok b env2 =>
        rw [q2] at p
        refine ⟨sm.good.tb P hP, fun H2 ht => ?_⟩
        obtain ⟨st2, sm2⟩ := sm.tabbed hP ht
        have fin : ∀ (e : Env) (σi : L2.St) (Z3 : Hp) (O3 : List Addr) (H3 : Hp), Sim K TB F e σi tm Z3 H3 O3 → L2.wipe σi vs = L2.wipe σ vs → Le Z1 Z3 → Step TB Z1 O1 H1 Z3 O3 H3 → wipeE e vs = some env2 → Q (.bl b) H3 := by
          intro e σi Z3 O3 H3 s3 w3 z3 st3 he
          obtain ⟨O5, st5, s5⟩ := Sim.wipe he s3
          rw [w3] at s5
          obtain ⟨O6, st6, s6⟩ := Sim.rest (env1 := env1) hnd (fun v hv => kept_slots sm (List.all_eq_true.mp hkept v hv) z3) (not_io he) s5
          exact p (.bl b) H3 Z3 O6 (st.trans ((st3.trans st5).trans st6)) (s6.push (.bl b))
        refine ⟨fun i m H => m = items.length - i ∧ i ≤ items.length ∧ ∃ envi σi Z O, Sim K TB F envi σi tm Z H O ∧ L2.wipe σi vs = L2.wipe σ vs ∧ Le Z1 Z ∧ Step TB Z1 O1 H1 Z O H ∧
            mQ vs g go te (items.drop i) envi = .ok b env2, ⟨_, rfl, Nat.zero_le _, env1, σ, Z1, O1, sm2, rfl, .refl, st2, q2⟩, ?_⟩
        rintro i m H3 ⟨rfl, hile, envi, σi, Z3, O3, s3, w3, z3, st3, hm⟩
        obtain ⟨hst, hgo⟩ := jok Z3 O3 H3 z3 s3.good
        rcases Nat.lt_or_ge i items.length with lt | ge
        · right
          have hx : items[i]? = some items[i] := List.getElem?_eq_getElem lt
          obtain ⟨hgo1, hy⟩ := hgo i _ hx
          rw [List.drop_eq_getElem_cons lt] at hm
          refine ⟨hgo1, fun H' => items.length - (i + 1) = items.length - (i + 1) ∧ i + 1 ≤ items.length ∧ ∃ envi σi Z O, Sim K TB F envi σi tm Z H' O ∧ L2.wipe σi vs = L2.wipe σ vs ∧ Le Z1 Z ∧ Step TB Z1 O1 H1 Z O H' ∧
            mQ vs g go te (items.drop (i + 1)) envi = .ok b env2, fun H' hN => ⟨_, Nat.sub_succ_lt_self _ _ lt, hN⟩, fun x H' hyl => ?_⟩
          obtain ⟨Z', nw, r⟩ := hy x H' hyl
          have st4 := nw.step (O := O3)
          rw [List.append_nil] at st4
          have s4 := nw.sim0 s3
          unfold mQ at hm
          split at hm
          · cases hm
          · rename_i e0 he0
            obtain ⟨O5, st5, s5⟩ := Sim.wipe he0 s4
            rw [w3] at s5
            split at hm
            · cases hm
            · rename_i env4 hg
              refine og F e0 env4 (L2.wipe σ vs) _ Z' H' O5 _ x _ s5 r hg fun σ6 O6 u6 l6 st6 s6 => ?_
              have w6 : L2.wipe σ6 vs = L2.wipe σ vs := (wipe_sub l6 u6 hi).trans wipe_wipe
              refine ⟨w6, F, env4, _, Z', O6, s6, ?_⟩
              have stA : Step TB Z1 O1 H1 Z' O6 H' := ((st3.trans st4).trans st5).trans st6
              split at hm
              · rename_i b2 env5 qe
                rw [qe]
                intro v H7 Z7 O7 st7 s7
                obtain ⟨O8, st8, s8⟩ := s7.dropTm
                have ev : v = .bl b2 := by
                  obtain ⟨P1, P2, eP, t1, t2⟩ := s7.splitTm
                  generalize hS : tmE [(PV.bl b2, v)] = E at t2
                  generalize hV : tmV [(PV.bl b2, v)] = EV at t2
                  cases t2 with
                  | nil => cases hS
                  | non v t => cases hS
                  | bor h t => cases hS
                  | own hk r t =>
                    cases hS
                    cases hV
                    cases r
                    rfl
                have stB := (stA.trans st7).trans st8
                have zB : Le Z1 Z7 := z3.trans (st4.z.trans st7.z)
                refine ⟨b2, ev, fun eg => ?_, fun ng => ?_⟩
                · rw [if_pos eg] at hm
                  exact ⟨rfl, lt, env5, σ6, Z7, O8, s8, w6, zB, stB, hm⟩
                · rw [if_neg ng] at hm
                  split at hm
                  · rename_i e3 he3
                    cases hm
                    exact fin env5 σ6 Z7 O8 H7 s8 w6 zB stB he3
                  · cases hm
              · cases hm
        · left
          obtain rfl : i = items.length := Nat.le_antisymm hile ge
          refine ⟨hst, ?_⟩
          rw [List.drop_length] at hm
          unfold mQ at hm
          split at hm
          · rename_i e0 he0
            cases hm
            exact fin envi σi Z3 O3 H3 s3 w3 z3 st3 he0
          · cases hm
    · exact p.elim
end Ev

set_option Elab.async false
set_option linter.all false
set_option maxRecDepth 100000
set_option maxHeartbeats 2000000
/-! Defs and calls. -/
namespace Ev
open PySem PySem.Spec PyProof.Rows L2 GxR Gx Gq
variable {K : PySem.W.Frag} {Z Z' H H' BH BH' : Hp} {TB : List Addr} {F : Fx} {env env' : Env} {σ : List (Option V)} {tm ts : Tm} {O O' : List Addr} {mg : Str → Option Value} {W : WX} {Q : VK} {D : Ends}
inductive DOut where
  | ok (x : PV) (os : List PV)
  | exc (c : Str) (xs : List PV) (os : List PV)
  | bad
/-- the arguments: true: in and out (the def may change it), false: only lent -/
inductive ArgsR (K : PySem.W.Frag) (Z BH H : Hp) : List Bool → List PV → List V → List Addr → Prop where
  | nil : ArgsR K Z BH H [] [] [] []
  | bor {ks : List Bool} {x : PV} {v : V} {xs : List PV} {vs : List V} {A O : List Addr} (h : Rep K Z BH x v A) (t : ArgsR K Z BH H ks xs vs O) : ArgsR K Z BH H (false :: ks) (x :: xs) (v :: vs) O
  | io {ks : List Bool} {x : PV} {v : V} {xs : List PV} {vs : List V} {A O : List Addr} (h : Rep K Z H x v A) (t : ArgsR K Z BH H ks xs vs O) : ArgsR K Z BH H (true :: ks) (x :: xs) (v :: vs) (A ++ O)
inductive OutsR (K : PySem.W.Frag) (Z H : Hp) : List Bool → List PV → List V → List Addr → Prop where
  | nil : OutsR K Z H [] [] [] []
  | bor {ks : List Bool} {v : V} {os : List PV} {vs : List V} {O : List Addr} (t : OutsR K Z H ks os vs O) : OutsR K Z H (false :: ks) os (v :: vs) O
  | io {ks : List Bool} {x : PV} {v : V} {os : List PV} {vs : List V} {A O : List Addr} (h : Rep K Z H x v A) (t : OutsR K Z H ks os vs O) : OutsR K Z H (true :: ks) (x :: os) (v :: vs) (A ++ O)
def PostD (K : PySem.W.Frag) (TB : List Addr) (mg : Str → Option Value) (ks : List Bool) (vs : List V) (BH : Hp) (r : DOut) (Z : Hp) (O : List Addr) (H : Hp) (Q : VK) (E : XK) : Prop := match r with
  | .ok x os => ∀ v H' Z' O' Ar, Step TB Z O H Z' (O' ++ Ar) H' → Good TB Z' BH (O' ++ Ar) H' → OutsR K Z' H' ks os vs O' → Rep K Z' H' x v Ar → Q v H'
  | .exc c es os => ∀ cls d H' Z' O', Step TB Z O H Z' O' H' → Good TB Z' BH O' H' → OutsR K Z' H' ks os vs O' → ExcR mg K Z' H' c es cls d → E cls d H'
  | .bad => False
/-- what a def promises: on data it does what den does -/
def spD (K : PySem.W.Frag) (TB : List Addr) (mg : Str → Option Value) (ks : List Bool) (den : List PV → DOut) : Sp := fun vs H Q E => ∃ Z BH O xs, Good TB Z BH O H ∧ ArgsR K Z BH H ks xs vs O ∧ PostD K TB mg ks vs BH (den xs) Z O H Q E
theorem ArgsR.len {ks : List Bool} {xs : List PV} {vs : List V} (h : ArgsR K Z BH H ks xs vs O) : ks.length = vs.length := by
  induction h with
  | nil => rfl
  | bor h t ih => simp [ih]
  | io h t ih => simp [ih]
/-! ### a def's body -/
def entsD : List Bool → List PV → Env
  | [], [] => []
  | false :: ks, x :: xs => some (.bor, x) :: entsD ks xs
  | true :: ks, x :: xs => some (.io, x) :: entsD ks xs
  | _, _ => []
def outsE : List Bool → Env → Option (List PV)
  | [], _ => some []
  | false :: ks, _ :: es => outsE ks es
  | true :: ks, some (.io, x) :: es => match outsE ks es with
    | some os => some (x :: os)
    | none => none
  | _, _ => none
def runD (n : Nat) (ks : List Bool) (m : SM) (xs : List PV) : DOut := match m (entsD ks xs ++ List.replicate (n - ks.length) none) with
  | .rt x e => match outsE ks e with
    | some os => .ok x os
    | none => .bad
  | .nx e => match outsE ks e with
    | some os => .ok .non os
    | none => .bad
  | .exc c es e => match outsE ks e with
    | some os => .exc c es os
    | none => .bad
  | _ => .bad
theorem ents_slots {ks : List Bool} {xs : List PV} {vs : List V} (h : ArgsR K Z BH H ks xs vs O) : Slots K Z BH H (entsD ks xs) (vs.map some) O := by
  induction h with
  | nil => exact .nil
  | bor h t ih => exact .bor h ih
  | io h t ih => exact .own (by decide) h ih
theorem ents_len {ks : List Bool} {xs : List PV} {vs : List V} (h : ArgsR K Z BH H ks xs vs O) : (entsD ks xs).length = vs.length := by
  rw [(ents_slots h).len, List.length_map]
theorem ents_io {ks : List Bool} {xs : List PV} {vs : List V} (h : ArgsR K Z BH H ks xs vs O) : ∀ i : Nat, ks[i]? = some true → ∃ x : PV, (entsD ks xs)[i]? = some (some (Kd.io, x)) := by
  induction h with
  | nil => intro i hi; simp at hi
  | bor h t ih =>
    intro i hi
    cases i with
    | zero => simp at hi
    | succ i => exact ih i (by simpa using hi)
  | io h t ih =>
    intro i hi
    cases i with
    | zero => exact ⟨_, rfl⟩
    | succ i => exact ih i (by simpa using hi)
theorem nones {n : Nat} : Slots K Z BH H (List.replicate n none) (List.replicate n none) [] := by
  induction n with
  | zero => exact .nil
  | succ n ih => exact .non none ih
theorem outs_of : ∀ {ks : List Bool} {es : Env} {ws : List (Option V)} {vs : List V} {os : List PV} {O : List Addr}, Slots K Z BH H es ws O → outsE ks es = some os → ks.length = vs.length → (∀ (i : Nat) (v : V), ks[i]? = some true → vs[i]? = some v → ws[i]? = some (some v)) →
    ∃ O', OutsR K Z H ks os vs O' ∧ O'.Sublist O
  | [], es, ws, [], os, O, s, h, l, hw => by
    simp only [outsE] at h
    cases h
    exact ⟨[], .nil, List.nil_sublist _⟩
  | [], _, _, _ :: _, _, _, _, _, l, _ => by cases l
  | _ :: _, _, _, [], _, _, _, _, l, _ => by cases l
  | false :: ks, [], ws, v :: vs, os, O, s, h, l, hw => by simp [outsE] at h
  | true :: ks, [], ws, v :: vs, os, O, s, h, l, hw => by simp [outsE] at h
  | false :: ks, e :: es, ws, v :: vs, os, O, s, h, l, hw => by
    simp only [outsE] at h
    have l' : ks.length = vs.length := Nat.succ.inj l
    cases s with
    | non w t =>
      obtain ⟨O', r, sb⟩ := outs_of t h l' fun i v a b => hw (i + 1) v (by simpa using a) (by simpa using b)
      exact ⟨O', .bor r, sb⟩
    | own hk r0 t =>
      obtain ⟨O', r, sb⟩ := outs_of t h l' fun i v a b => hw (i + 1) v (by simpa using a) (by simpa using b)
      exact ⟨O', .bor r, sb.trans (List.sublist_append_right _ _)⟩
    | bor r0 t =>
      obtain ⟨O', r, sb⟩ := outs_of t h l' fun i v a b => hw (i + 1) v (by simpa using a) (by simpa using b)
      exact ⟨O', .bor r, sb⟩
  | true :: ks, none :: es, ws, v :: vs, os, O, s, h, l, hw => by simp [outsE] at h
  | true :: ks, some (.own, x) :: es, ws, v :: vs, os, O, s, h, l, hw => by simp [outsE] at h
  | true :: ks, some (.bor, x) :: es, ws, v :: vs, os, O, s, h, l, hw => by simp [outsE] at h
  | true :: ks, some (.io, x) :: es, ws, v :: vs, os, O, s, h, l, hw => by
    have l' : ks.length = vs.length := Nat.succ.inj l
    simp only [outsE] at h
    split at h
    · rename_i os2 h2
      cases h
      have hv := hw 0 v rfl rfl
      cases s with
      | own hk r0 t =>
        obtain ⟨O', r, sb⟩ := outs_of t h2 l' fun i v a b => hw (i + 1) v (by simpa using a) (by simpa using b)
        simp at hv
        subst hv
        exact ⟨_, .io r0 r, List.Sublist.append (List.Sublist.refl _) sb⟩
    · cases h
theorem Good.subl (g : Good TB Z BH O H) (s : O'.Sublist O) : Good TB Z BH O' H :=
  ⟨g.le, fun a ha => g.nz a (s.subset ha), s.nodup g.nd, g.tb, g.tz, g.lb, fun a ha => g.nb a (s.subset ha), g.bt⟩
theorem start_eq {N : List Str} {vs : List V} : start N vs = vs.map some ++ List.replicate (N.length - vs.length) none := rfl
theorem tS_body {ks : List Bool} {m : SM} {N : List Str} {vs : List V} {E : XK} (h : spD K TB mg ks (runD N.length ks m) vs H Q E) :
    tS K TB mg (fun cls d _ H' => E cls d H') m { nx := fun _ H' => Q .non H', rt := Q } (start N vs) H := by
  obtain ⟨Z, BH, O, xs, g, ar, p⟩ := h
  have le := ents_len ar
  have lk := ar.len
  refine ⟨⟨BH, fun i => if ks[i]? = some true then vs[i]? else none⟩, entsD ks xs ++ List.replicate (N.length - ks.length) none, [], Z, O, ⟨?_, g, ?_, fun i v hi => ?_⟩, ?_⟩
  · rw [start_eq, List.length_append, List.length_append, List.length_replicate, List.length_replicate, List.length_map, le, lk]
  · have q := (ents_slots ar).app (nones (K := K) (Z := Z) (BH := BH) (H := H) (n := N.length - ks.length))
    rw [start_eq, ← lk]
    simpa using q
  · have hi : (if ks[i]? = some true then vs[i]? else none) = some v := hi
    split at hi
    · rename_i hk
      obtain ⟨x, hx⟩ := ents_io ar i hk
      refine ⟨?_, x, in_app hx⟩
      rw [start_eq]
      refine in_app ?_
      rw [List.getElem?_map, hi] <;> rfl
    · cases hi
  · have fin : ∀ (x : PV) (e : Env) (v : V) (σ' : L2.St) (H' Z' : Hp) (O1 : List Addr) (os : List PV), outsE ks e = some os → Step TB Z O H Z' O1 H' → Sim K TB ⟨BH, fun i => if ks[i]? = some true then vs[i]? else none⟩ e σ' ([] ++ [(x, v)]) Z' H' O1 →
        ∃ O' Ar, Step TB Z O H Z' (O' ++ Ar) H' ∧ Good TB Z' BH (O' ++ Ar) H' ∧ OutsR K Z' H' ks os vs O' ∧ Rep K Z' H' x v Ar := by
      intro x e v σ' H' Z' O1 os ho st sm
      obtain ⟨P1, P2, rfl, s1, s2⟩ := sm.splitTm
      have r2 := tm_reps s2
      have e1 : e ++ tmE ([] : Tm) = e := by simp
      have e2 : σ' ++ tmV ([] : Tm) = σ' := by simp
      rw [e1, e2] at s1
      obtain ⟨O', or, sb⟩ := outs_of s1 ho lk fun i w hk hv => (sm.io i w (by simp [hk, hv])).1
      generalize hX : ([(x, v)] : Tm).map (·.1) = X at r2
      generalize hV : ([(x, v)] : Tm).map (·.2) = Y at r2
      cases r2 with
      | nil => cases hX
      | cons hr ht =>
        cases hX
        cases hV
        cases ht
        rename_i A
        have sb2 : (O' ++ A).Sublist (P1 ++ (A ++ [])) := by
          rw [List.append_nil]
          exact List.Sublist.append sb (List.Sublist.refl _)
        exact ⟨O', A, st.sub fun a ha => sb2.subset ha, sm.good.subl sb2, or, hr⟩
    unfold runD at p
    cases q : m (entsD ks xs ++ List.replicate (N.length - ks.length) none) with
    | nx e =>
      rw [q] at p
      simp only at p
      cases ho : outsE ks e with
      | none => rw [ho] at p; exact p.elim
      | some os =>
        rw [ho] at p
        intro σ' H' Z' O1 st sm
        obtain ⟨O', Ar, st2, g2, or, rr⟩ := fin .non e .non σ' H' Z' O1 os ho st (sm.push .non)
        exact p .non H' Z' O' Ar st2 g2 or rr
    | rt x e =>
      rw [q] at p
      simp only at p
      cases ho : outsE ks e with
      | none => rw [ho] at p; exact p.elim
      | some os =>
        rw [ho] at p
        intro v σ' H' Z' O1 st sm
        obtain ⟨O', Ar, st2, g2, or, rr⟩ := fin x e v σ' H' Z' O1 os ho st sm
        exact p v H' Z' O' Ar st2 g2 or rr
    | exc c es e =>
      rw [q] at p
      simp only at p
      cases ho : outsE ks e with
      | none => rw [ho] at p; exact p.elim
      | some os =>
        rw [ho] at p
        intro σ' cls d H' Z' O1 st sm er
        have s1 := sm.sl
        have e1 : e ++ tmE ([] : Tm) = e := by simp
        have e2 : σ' ++ tmV ([] : Tm) = σ' := by simp
        rw [e1, e2] at s1
        obtain ⟨O', or, sb⟩ := outs_of s1 ho lk fun i w hk hv => (sm.io i w (by simp [hk, hv])).1
        exact p cls d H' Z' O' (st.sub fun a ha => sb.subset ha) (sm.good.subl sb) or er
    | bk e => rw [q] at p; exact p.elim
    | ct e => rw [q] at p; exact p.elim
    | bad => rw [q] at p; exact p.elim
section
variable {P : Program} {w : World} {base : Heap} {x qual : Str} {params : Arguments} {body : List Stmt} {scope : Scope} {dvs : List V} {kws : List (Str × V)} {N ps : List Str} {k : Nat}
/-- a def, by its body on data -/
theorem okD {d : He.Defn} {fd : FuncData} {ks : List Bool} {m : SM} (Fd : FunD K x qual params body scope dvs kws (He.fAd K d) fd) (S : FnScope N ps scope) (hk : ks.length = ps.length)
    (hbody : ∀ (X : Cx) (W : WX), X.prog = P → X.w = w → X.K = K → X.mg = mg → X.base = base → X.N = N → X.calm = true → X.env.scope = scope → (∀ x, X.fn x = true) → X.env.code = .ref (He.codeOf K d) → X.stack = X.env :: X.outer → X.env.frame = some X.env.locals → Room k X.A → Takes X W → PassesOwn (model X.prog X.w) X.A X.env X.xe →
      PSs X body (tS K TB mg W m)) : FnOk P w K mg base (L2.CX P w) (k + 1) (He.fAd K d) fd ps (spD K TB mg ks (runD N.length ks m)) := by
  obtain ⟨oc, od, dV, kV, doc, pm, an, cdv, ct, osl, rfl, lk, hcd, _, _⟩ := Fd.ex
  obtain ⟨c, rfl⟩ := He.codeIn_ref hcd
  refine fn_of lk hcd S (fun vs H Q E h => ?_) fun A outer s H vs Q E hr hsp => ?_
  · obtain ⟨Z, BH, O, xs, g, ar, p⟩ := h
    rw [← ar.len, hk]
  · exact ⟨_, hbody _ _ rfl rfl rfl rfl rfl rfl rfl rfl (fun _ => rfl) (congrArg Value.ref (He.codeOf_eq lk rfl).symm) rfl rfl hr (takes_of rfl rfl rfl rfl) (passes_of rfl), tS_body hsp⟩
end
end Ev

set_option Elab.async false
set_option linter.all false
set_option maxRecDepth 100000
set_option maxHeartbeats 2000000
/-! Calls. -/
namespace Ev
open PySem PySem.Spec PyProof.Rows L2 GxR Gx Gq
variable {K : PySem.W.Frag} {Z Z' H H' BH BH' : Hp} {TB : List Addr} {F : Fx} {env env' : Env} {σ : List (Option V)} {tm ts : Tm} {O O' : List Addr} {mg : Str → Option Value} {W : WX} {Q : VK} {D : Ends}
/-- behind a callee that was given A0 of what is owned -/
theorem Good.frame {R A0 Oc : List Addr} (g : Good TB Z BH (R ++ A0) H) (st : Step TB Z A0 H Z' Oc H') (gc : Good TB Z' BH' Oc H') (atR : ∀ a ∈ R, H a ≠ none) (ntR : ∀ a ∈ R, a ∉ TB) :
    Good TB Z' BH (R ++ Oc) H' ∧ Step TB Z (R ++ A0) H Z' (R ++ Oc) H' ∧ (∀ a ∈ R, ∀ o, H a = some o → H' a = some o) := by
  obtain ⟨ndR, ndA, dj⟩ := List.nodup_append.mp g.nd
  have zR : ∀ a ∈ R, Z' a = none := fun a ha => by
    cases e : Z' a with
    | none => rfl
    | some o =>
      rcases st.zn a (by rw [e]; intro q; cases q) with q | q | q
      · exact absurd (g.nz a (List.mem_append_left _ ha)) q
      · exact absurd rfl (dj a ha a q)
      · exact absurd q (atR a ha)
  have kp : ∀ a ∈ R, ∀ o, H a = some o → H' a = some o := fun a ha o h => st.keep a o h (fun m => dj a ha a m rfl) (ntR a ha)
  have bk : ∀ a o, BH a = some o → H' a = some o := fun a o h => st.keep a o (g.lb a o h) (fun m => by rw [g.nb a (List.mem_append_right _ m)] at h; cases h) fun m => by rw [g.bt a m] at h; cases h
  refine ⟨⟨gc.le, fun a ha => ?_, List.nodup_append.mpr ⟨ndR, gc.nd, fun a h1 b h2 e => ?_⟩, gc.tb, gc.tz, bk, fun a ha => ?_, g.bt⟩, ⟨st.z, fun a o h n nt => st.keep a o h (fun m => n (List.mem_append_right _ m)) nt, fun a ha => ?_, fun a h => ?_, st.dom⟩, kp⟩
  · exact (List.mem_append.mp ha).elim (zR a) (gc.nz a)
  · subst e
    rcases st.own a h2 with q | q
    · exact dj a h1 a q rfl
    · exact atR a h1 q
  · rcases List.mem_append.mp ha with h | h
    · exact g.nb a (List.mem_append_left _ h)
    · rcases st.own a h with q | q
      · exact g.nb a (List.mem_append_right _ q)
      · cases e : BH a with
        | none => rfl
        | some o => have := g.lb a o e; rw [q] at this; cases this
  · rcases List.mem_append.mp ha with h | h
    · exact .inl (List.mem_append_left _ h)
    · exact (st.own a h).imp (List.mem_append_right _) id
  · exact (st.zn a h).imp id fun z => z.imp (List.mem_append_right _) id
/-- a slot read, with where its parts stand -/
theorem Slots.get2 {k : Kd} {x : PV} (lb : Le BH H) : ∀ {es : List Ent} {vs : List (Option V)} {O : List Addr} {i : Nat}, Slots K Z BH H es vs O → es[i]? = some (some (k, x)) → ∃ v A, vs[i]? = some (some v) ∧ Rep K Z H x v A ∧ ∀ a ∈ A, a ∈ O ∨ BH a ≠ none
  | _, _, _, i, .nil, h => by simp at h
  | _, _, _, 0, .non v t, h => by simp at h
  | _, _, _, 0, .own (A := A) hk r t, h => by
    simp at h
    obtain ⟨rfl, rfl⟩ := h
    exact ⟨_, A, rfl, r, fun a ha => .inl (List.mem_append_left _ ha)⟩
  | _, _, _, 0, .bor (A := A) r t, h => by
    simp at h
    obtain ⟨rfl, rfl⟩ := h
    exact ⟨_, A, rfl, r.mono .refl fun a _ o e => lb a o e, fun a ha => .inr (r.at_ a ha)⟩
  | _, _, _, i + 1, .non v t, h => by
    obtain ⟨w, A, e1, r, s⟩ := Slots.get2 lb (i := i) t (by simpa using h)
    exact ⟨w, A, by simpa using e1, r, s⟩
  | _, _, _, i + 1, .own hk r0 t, h => by
    obtain ⟨w, A, e1, r, s⟩ := Slots.get2 lb (i := i) t (by simpa using h)
    exact ⟨w, A, by simpa using e1, r, fun a ha => (s a ha).imp (List.mem_append_right _) id⟩
  | _, _, _, i + 1, .bor r0 t, h => by
    obtain ⟨w, A, e1, r, s⟩ := Slots.get2 lb (i := i) t (by simpa using h)
    exact ⟨w, A, by simpa using e1, r, s⟩
/-- the one slot that a call may change -/
def ioIx : List Bool → List Op → Option (Option Nat)
  | [], [] => some none
  | false :: ks, _ :: os => ioIx ks os
  | true :: ks, .v i :: os => match ioIx ks os with
    | some none => some (some i)
    | _ => none
  | _, _ => none
def lookC : List Bool → List Op → List (Option PV) → Env → PV → Option (List PV)
  | [], [], [], _, _ => some []
  | false :: ks, .v i :: os, none :: l, env, x0 => match env[i]? with
    | some (some (_, x)) => match lookC ks os l env x0 with
      | some xs => some (x :: xs)
      | none => none
    | _ => none
  | false :: ks, .m _ :: os, some x :: l, env, x0 => match lookC ks os l env x0 with
    | some xs => some (x.frz :: xs)
    | none => none
  | true :: ks, .v _ :: os, none :: l, env, x0 => match lookC ks os l env x0 with
    | some xs => some (x0 :: xs)
    | none => none
  | _, _, _, _, _ => none
def eCall (ks : List Bool) (den : List PV → DOut) (ops : List Op) : M PV := fun env => (evOps ops env).bind fun l env' => match ioIx ks ops with
  | none => .bad
  | some none => match lookC ks ops l env' .non with
    | none => .bad
    | some xs => match den xs with
      | .ok x [] => .ok x env'
      | .exc c es [] => .exc c es env'
      | _ => .bad
  | some (some i) => match env'[i]? with
    | some (some (k, x0)) => if k = .bor then .bad else match lookC ks ops l (env'.set i none) x0 with
      | none => .bad
      | some xs => match den xs with
        | .ok x [o] => .ok x (env'.set i (some (k, o)))
        | .exc c es [o] => .exc c es (env'.set i (some (k, o)))
        | _ => .bad
    | _ => .bad
theorem got_args {R : List Addr} {Z BH0 H BHc : Hp} {envr : Env} {x0 : PV} {v0 : V} {A0 : List Addr} (lb : Le BH0 H) (sl : Slots K Z BH0 H (envr ++ tmE tm) (σ ++ tmV tm) R) (ln : envr.length = σ.length)
    (hc : ∀ a o, H a = some o → (a ∈ R ∨ BH0 a ≠ none) → BHc a = some o) {ops : List Op} {l : List (Option PV)} {vs : List V} {ts : Tm} (g : Got σ ops l vs ts) :
    ∀ {ks : List Bool} {xs : List PV} {oi : Option Nat}, ioIx ks ops = some oi → lookC ks ops l envr x0 = some xs → (∀ i, oi = some i → σ[i]? = some (some v0) ∧ Rep K Z H x0 v0 A0) → (∀ p ∈ ts, Rep K Z H p.1.frz p.2 []) →
      ArgsR K Z BHc H ks xs vs (if oi.isSome then A0 else []) := by
  induction g with
  | nil =>
    intro ks xs oi hi hx hio hr
    cases ks with
    | nil =>
      simp only [ioIx] at hi
      simp only [lookC] at hx
      cases hi
      cases hx
      exact .nil
    | cons k ks => cases k <;> simp [ioIx] at hi
  | v e t ih =>
    rename_i i v ops l vs ts
    intro ks xs oi hi hx hio hr
    cases ks with
    | nil => simp [ioIx] at hi
    | cons k ks =>
      cases k with
      | false =>
        simp only [ioIx] at hi
        simp only [lookC] at hx
        split at hx
        · rename_i k x e2
          split at hx
          · rename_i xs2 h2
            cases hx
            obtain ⟨w, A, ev, r, sub⟩ := sl.get2 lb (in_app (r := tmE tm) e2)
            have ev' := of_app (by rw [← ln]; exact lt_of_some e2) ev
            rw [e] at ev'
            cases ev'
            exact .bor (r.mono .refl fun a ha o h => hc a o h (sub a ha)) (ih hi h2 hio hr)
          · cases hx
        · cases hx
      | true =>
        simp only [ioIx] at hi
        simp only [lookC] at hx
        split at hi
        · rename_i h1
          cases hi
          split at hx
          · rename_i xs2 h2
            cases hx
            obtain ⟨ev, r⟩ := hio i rfl
            rw [e] at ev
            cases ev
            have q := ih h1 h2 (fun i hi => by cases hi) hr
            have q2 : ArgsR K Z BHc H ks xs2 vs [] := q
            have q3 := ArgsR.io r q2
            rw [List.append_nil] at q3
            exact q3
          · cases hx
        · cases hi
  | m t ih =>
    rename_i m x v ops l vs ts
    intro ks xs oi hi hx hio hr
    cases ks with
    | nil => simp [ioIx] at hi
    | cons k ks =>
      cases k with
      | false =>
        simp only [ioIx] at hi
        simp only [lookC] at hx
        split at hx
        · rename_i xs2 h2
          cases hx
          exact .bor (A := []) ((hr (x, v) (List.mem_cons_self ..)).mono .refl fun a ha => by cases ha) (ih hi h2 hio fun p hp => hr p (List.mem_cons_of_mem _ hp))
        · cases hx
      | true => simp [ioIx] at hi
theorem outs_none : ∀ {ks : List Bool} {ops : List Op} {os : List PV} {vs : List V} {Oc : List Addr}, ioIx ks ops = some none → OutsR K Z H ks os vs Oc → Oc = [] ∧ os = [] := by
  intro ks
  induction ks with
  | nil => intro ops os vs Oc h o; cases o; exact ⟨rfl, rfl⟩
  | cons k ks ih =>
    intro ops os vs Oc h o
    cases ops with
    | nil => cases k <;> simp [ioIx] at h
    | cons op ops =>
      cases o with
      | bor t => exact ih (ops := ops) (by simpa [ioIx] using h) t
      | io r t =>
        cases op with
        | m m => simp [ioIx] at h
        | v i =>
          simp only [ioIx] at h
          split at h <;> cases h
theorem outs_some : ∀ {ks : List Bool} {ops : List Op} {os : List PV} {vs : List V} {Oc : List Addr} {i : Nat} {l : List (Option PV)} {ts : Tm}, ioIx ks ops = some (some i) → Got σ ops l vs ts → OutsR K Z H ks os vs Oc → ∃ o v, os = [o] ∧ σ[i]? = some (some v) ∧ Rep K Z H o v Oc := by
  intro ks
  induction ks with
  | nil =>
    intro ops os vs Oc i l ts h g o
    cases ops <;> simp [ioIx] at h
  | cons k ks ih =>
    intro ops os vs Oc i l ts h g o
    cases g with
    | nil => cases k <;> simp [ioIx] at h
    | v e g =>
      rename_i j v ops l vs
      cases o with
      | bor t => exact ih (ops := ops) (by simpa [ioIx] using h) g t
      | io r t =>
        simp only [ioIx] at h
        split at h
        · rename_i h1
          cases h
          obtain ⟨e1, e2⟩ := outs_none h1 t
          subst e1
          subst e2
          rw [List.append_nil]
          exact ⟨_, _, rfl, e, r⟩
        · cases h
    | m g =>
      rename_i m x v ops l vs ts
      cases o with
      | bor t => exact ih (ops := ops) (by simpa [ioIx] using h) g t
      | io r t => simp [ioIx] at h
/-- all but the tables and A0 -/
def lend (H : Hp) (TB A0 : List Addr) : Hp := fun a => if a ∈ TB ∨ a ∈ A0 then none else H a
theorem lend_in {A0 : List Addr} {a : Addr} (h1 : a ∉ TB) (h2 : a ∉ A0) : lend H TB A0 a = H a := if_neg fun h => h.elim h1 h2
theorem tE_call {ks : List Bool} {den : List PV → DOut} {ops : List Op} (h : tE K TB mg W (eCall ks den ops) σ H Q) : tCallS (spD K TB mg ks den) (WE W) (tOpds K TB mg W ops) σ H Q := by
  obtain ⟨F, env, tm, Z, O, s, p⟩ := h
  refine evOps_ok ops s ?_
  unfold eCall at p
  cases q : evOps ops env with
  | exc c xs env' => rw [q] at p; exact p
  | bad => rw [q] at p; exact p
  | ok l env' =>
    rw [q] at p
    simp only [Out.bind] at p
    intro vs ts H1 Z1 O1 st sm g
    obtain ⟨Z2, O2, st2, s2, hr⟩ := sm.frzTm
    have st12 := st.trans st2
    have g2 := s2.good
    have nt : ∀ a ∈ O2, a ∉ TB := fun a ha => not_tb g2.tb (s2.sl.notab a ha)
    split at p
    · exact p.elim
    · rename_i hio
      split at p
      · exact p.elim
      · rename_i xs hx
        have gl : Good TB Z2 (lend H1 TB []) [] H1 := ⟨g2.le, (fun a ha => by cases ha), List.nodup_nil, g2.tb, g2.tz, (fun a o h => by
          unfold lend at h
          split at h
          · cases h
          · exact h), (fun a ha => by cases ha), fun t ht => if_pos (.inl ht)⟩
        have ar := got_args (x0 := .non) (v0 := .non) (A0 := []) (BHc := lend H1 TB []) g2.lb s2.sl s2.len (fun a o h hin => by
          rw [lend_in (hin.elim (nt a) fun b m => b (g2.bt a m)) (by simp)]; exact h) g hio hx (fun i hi => by cases hi) hr
        refine ⟨Z2, lend H1 TB [], [], xs, gl, ar, ?_⟩
        have g2' : Good TB Z2 F.BH (O2 ++ []) H1 := by rw [List.append_nil]; exact g2
        cases qd : den xs with
        | bad => rw [qd] at p; exact p.elim
        | ok x os =>
          rw [qd] at p
          cases os with
          | cons _ _ => exact p.elim
          | nil =>
            intro v H' Z' Oc Ar st3 g3 ou rr
            obtain ⟨rfl, _⟩ := outs_none hio ou
            obtain ⟨gf, sf, kf⟩ := g2'.frame st3 g3 s2.sl.at_ nt
            rw [List.append_nil] at sf
            refine p v H' Z' _ (st12.trans sf) ⟨s2.len, gf, ?_, s2.io⟩
            have e1 : env' ++ tmE (tm ++ [(x, v)]) = (env' ++ tmE tm) ++ [some (Kd.own, x)] := by simp [List.append_assoc]
            have e2 : σ ++ tmV (tm ++ [(x, v)]) = (σ ++ tmV tm) ++ [some v] := by simp [List.append_assoc]
            rw [e1, e2]
            have q2 : Slots K Z' F.BH H' [some (Kd.own, x)] [some v] (Ar ++ []) := .own (by decide) rr .nil
            rw [List.append_nil] at q2
            exact (s2.sl.mono st3.z kf).app q2
        | exc c es os =>
          rw [qd] at p
          cases os with
          | cons _ _ => exact p.elim
          | nil =>
            intro cls d H' Z' Oc st3 g3 ou er
            obtain ⟨rfl, _⟩ := outs_none hio ou
            obtain ⟨gf, sf, kf⟩ := g2'.frame st3 g3 s2.sl.at_ nt
            rw [List.append_nil] at sf gf
            exact p cls d H' Z' _ (st12.trans sf) ⟨s2.len, gf, s2.sl.mono st3.z kf, s2.io⟩ er
    · rename_i i hio
      split at p
      · rename_i k x0 e0
        split at p
        · exact p.elim
        · rename_i hk
          split at p
          · exact p.elim
          · rename_i xs hx
            obtain ⟨v0, A, P1, P2, ev, r0, eO, f⟩ := s2.sl.at_own hk (in_app (r := tmE tm) e0)
            have ev' : σ[i]? = some (some v0) := of_app (by rw [← s2.len]; exact lt_of_some e0) ev
            have pm : O2.Perm ((P1 ++ P2) ++ A) := by
              rw [eO, List.append_assoc, List.append_assoc]
              exact List.Perm.append_left P1 List.perm_append_comm
            have gp := g2.perm pm
            have rest := f Z2 H1 none (some v0) [] .refl (fun a _ o h => h) (.non _ .nil)
            rw [List.append_nil, List.set_append_left _ _ (lt_of_some e0), List.set_append_left _ _ (lt_of_some ev'), set_self ev'] at rest
            have ntP : ∀ a ∈ P1 ++ P2, a ∉ TB := fun a ha => nt a (pm.mem_iff.mpr (List.mem_append_left _ ha))
            have dj : ∀ a ∈ P1 ++ P2, a ∉ A := fun a ha hA => (List.nodup_append.mp gp.nd).2.2 a ha a hA rfl
            have nbA : ∀ a ∈ A, F.BH a = none := fun a ha => gp.nb a (List.mem_append_right _ ha)
            have gl : Good TB Z2 (lend H1 TB A) A H1 := ⟨g2.le, (fun a ha => gp.nz a (List.mem_append_right _ ha)), (List.nodup_append.mp gp.nd).2.1, g2.tb, g2.tz, (fun a o h => by
              unfold lend at h
              split at h
              · cases h
              · exact h), (fun a ha => if_pos (.inr ha)), fun t ht => if_pos (.inl ht)⟩
            have ar := got_args (x0 := x0) (v0 := v0) (A0 := A) (BHc := lend H1 TB A) g2.lb rest (by rw [List.length_set]; exact s2.len) (fun a o h hin => by
              rw [lend_in (hin.elim (ntP a) fun b m => b (g2.bt a m)) (hin.elim (dj a) fun b m => b (nbA a m))]; exact h) g hio hx (fun j hj => by cases hj; exact ⟨ev', r0⟩) hr
            refine ⟨Z2, lend H1 TB A, A, xs, gl, ar, ?_⟩
            have ios : ∀ (o : PV) (j : Nat) (w : V), F.ios j = some w → σ[j]? = some (some w) ∧ ∃ x, (env'.set i (some (k, o)))[j]? = some (some (Kd.io, x)) := fun o j w hj => by
              obtain ⟨h1, y, h2⟩ := s2.io j w hj
              by_cases ne : i = j
              · subst ne
                rw [e0] at h2
                cases h2
                exact ⟨h1, o, by rw [List.getElem?_set_self (lt_of_some e0)]⟩
              · refine ⟨h1, y, ?_⟩
                rw [List.getElem?_set_ne ne]
                exact h2
            have put : ∀ (o : PV) (Z' H' : Hp) (Oc Ar : List Addr), Step TB Z2 A H1 Z' (Oc ++ Ar) H' → Good TB Z' (lend H1 TB A) (Oc ++ Ar) H' → Rep K Z' H' o v0 Oc →
                Step TB Z2 O2 H1 Z' (P1 ++ Oc ++ P2 ++ Ar) H' ∧ Good TB Z' F.BH (P1 ++ Oc ++ P2 ++ Ar) H' ∧ Slots K Z' F.BH H' (env'.set i (some (k, o)) ++ tmE tm) (σ ++ tmV tm) (P1 ++ Oc ++ P2) := by
              intro o Z' H' Oc Ar st3 g3 ro
              obtain ⟨gf, sf, kf⟩ := gp.frame st3 g3 (fun a ha => s2.sl.at_ a (pm.mem_iff.mpr (List.mem_append_left _ ha))) ntP
              have pm2 : ((P1 ++ P2) ++ (Oc ++ Ar)).Perm (P1 ++ Oc ++ P2 ++ Ar) := by
                simp only [List.append_assoc]
                refine List.Perm.append_left P1 ?_
                rw [← List.append_assoc, ← List.append_assoc]
                exact List.Perm.append_right Ar List.perm_append_comm
              have stO : Step TB Z2 O2 H1 Z2 ((P1 ++ P2) ++ A) H1 := Step.refl.perm pm
              refine ⟨stO.trans (sf.perm pm2), gf.perm pm2, ?_⟩
              have q := f Z' H' (some (k, o)) (some v0) Oc st3.z (fun a ha u h => kf a (List.mem_append.mpr ha) u h) (by
                have z : Slots K Z' F.BH H' [some (k, o)] [some v0] (Oc ++ []) := .own hk ro .nil
                rw [List.append_nil] at z
                exact z)
              rw [List.set_append_left _ _ (lt_of_some e0), List.set_append_left _ _ (lt_of_some ev'), set_self ev'] at q
              exact q
            cases qd : den xs with
            | bad => rw [qd] at p; exact p.elim
            | ok x os =>
              rw [qd] at p
              intro v H' Z' Oc Ar st3 g3 ou rr
              obtain ⟨o, w, rfl, ew, ro⟩ := outs_some hio g ou
              rw [ev'] at ew
              cases ew
              obtain ⟨sf, gf, sl⟩ := put o Z' H' Oc Ar st3 g3 ro
              refine p v H' Z' _ (st12.trans sf) ⟨by rw [List.length_set]; exact s2.len, gf, ?_, ios o⟩
              have e1 : env'.set i (some (k, o)) ++ tmE (tm ++ [(x, v)]) = (env'.set i (some (k, o)) ++ tmE tm) ++ [some (Kd.own, x)] := by simp [List.append_assoc]
              have e2 : σ ++ tmV (tm ++ [(x, v)]) = (σ ++ tmV tm) ++ [some v] := by simp [List.append_assoc]
              rw [e1, e2]
              have q2 : Slots K Z' F.BH H' [some (Kd.own, x)] [some v] (Ar ++ []) := .own (by decide) rr .nil
              rw [List.append_nil] at q2
              exact sl.app q2
            | exc c es os =>
              rw [qd] at p
              intro cls d H' Z' Oc st3 g3 ou er
              obtain ⟨o, w, rfl, ew, ro⟩ := outs_some hio g ou
              rw [ev'] at ew
              cases ew
              have st3' : Step TB Z2 A H1 Z' (Oc ++ []) H' := by rw [List.append_nil]; exact st3
              have g3' : Good TB Z' (lend H1 TB A) (Oc ++ []) H' := by rw [List.append_nil]; exact g3
              obtain ⟨sf, gf, sl⟩ := put o Z' H' Oc [] st3' g3' ro
              rw [List.append_nil] at sf gf
              exact p cls d H' Z' _ (st12.trans sf) ⟨by rw [List.length_set]; exact s2.len, gf, sl, ios o⟩ er
      · exact p.elim
end Ev

set_option Elab.async false
set_option linter.all false
set_option maxRecDepth 100000
set_option maxHeartbeats 2000000
/-! Operations lifted; tests. -/
namespace Ev
open PySem PySem.Spec PyProof.Rows L2 GxR Gx Gq
variable {K : PySem.W.Frag} {Z Z' H H' BH BH' : Hp} {TB : List Addr} {F : Fx} {env env' : Env} {σ : List (Option V)} {tm ts : Tm} {O O' : List Addr} {mg : Str → Option Value} {W : WX} {Q Q' : VK} {D : Ends}
theorem tE_mono {m : M PV} (h : tE K TB mg W m σ H Q) (k : ∀ v H', Q v H' → Q' v H') : tE K TB mg W m σ H Q' := by
  obtain ⟨F, env, tm, Z, O, s, p⟩ := h
  refine ⟨F, env, tm, Z, O, s, ?_⟩
  cases q : m env with
  | ok x e => rw [q] at p; exact fun v H' Z' O' st sm => k _ _ (p v H' Z' O' st sm)
  | exc c xs e => rw [q] at p; exact p
  | bad => rw [q] at p; exact p
theorem tOpd_mono {o : Op} (h : tOpd K TB mg W o σ H Q) (k : ∀ v H', Q v H' → Q' v H') : tOpd K TB mg W o σ H Q' := by
  cases o with
  | v i =>
    obtain ⟨v, e, q⟩ := h
    exact ⟨v, e, k _ _ q⟩
  | m m => exact tE_mono h k
/-- lifted to lists of operands -/
def f1 (f : PV → Option PV) : List PV → Option PV
  | [x] => f x
  | _ => none
def f2 (f : PV → PV → Option PV) : List PV → Option PV
  | [x, y] => f x y
  | _ => none
def r1L (r : V → Hp → VK → Prop) : List V → Hp → VK → Prop
  | [x], H, Q => r x H Q
  | _, _, _ => False
def r2L (r : R2) : List V → Hp → VK → Prop
  | [x, y], H, Q => r x y H Q
  | _, _, _ => False
def Ok1F (K : PySem.W.Frag) (TB : List Addr) (f : PV → Option PV) (r : V → Hp → VK → Prop) : Prop :=
  ∀ (Z BH : Hp) (O : List Addr) (H : Hp) (x : PV) (v : V) (A : List Addr) (z : PV) (Q : VK), Good TB Z BH O H → Rep K Z H x v A → f x = some z → (∀ u H' Z' A', New TB Z H Z' A' H' → Rep K Z' H' z u A' → Q u H') → r v H Q
def Ok2F (K : PySem.W.Frag) (TB : List Addr) (f : PV → PV → Option PV) (r : R2) : Prop :=
  ∀ (Z BH : Hp) (O : List Addr) (H : Hp) (x y : PV) (v w : V) (A B : List Addr) (z : PV) (Q : VK), Good TB Z BH O H → Rep K Z H x v A → Rep K Z H y w B → f x y = some z → (∀ u H' Z' A', New TB Z H Z' A' H' → Rep K Z' H' z u A' → Q u H') → r v w H Q
theorem Ok1F.ok {f : PV → Option PV} {r : V → Hp → VK → Prop} (h : Ok1F K TB f r) : OkF K TB (f1 f) (r1L r) := by
  intro Z BH O H xs vs z Q g rs hf k
  cases rs with
  | nil => cases hf
  | cons A r1 t =>
    cases t with
    | nil => exact h Z BH O H _ _ A z Q g r1 hf k
    | cons B r2 t => cases hf
theorem Ok2F.ok {f : PV → PV → Option PV} {r : R2} (h : Ok2F K TB f r) : OkF K TB (f2 f) (r2L r) := by
  intro Z BH O H xs vs z Q g rs hf k
  cases rs with
  | nil => cases hf
  | cons A r1 t =>
    cases t with
    | nil => cases hf
    | cons B r2 t =>
      cases t with
      | nil => exact h Z BH O H _ _ _ _ A B z Q g r1 r2 hf k
      | cons C r3 t => cases hf
/-- two ways of an operation: the first that is there -/
def orF (f g : PV → PV → Option PV) : PV → PV → Option PV := fun x y => match f x y with
  | some z => some z
  | none => g x y
theorem Ok2F.or {f g : PV → PV → Option PV} {r r' : R2} (h : Ok2F K TB f r) (h' : Ok2F K TB g r') : Ok2F K TB (orF f g) (fun x y H Q => r x y H Q ∨ r' x y H Q) := by
  intro Z BH O H x y v w A B z Q gd r1 r2 hf k
  unfold orF at hf
  split at hf
  · rename_i z' e
    cases hf
    exact .inl (h Z BH O H x y v w A B _ Q gd r1 r2 e k)
  · exact .inr (h' Z BH O H x y v w A B z Q gd r1 r2 hf k)
/-- a plain value is told -/
theorem tell {z : PV} {u : V} (g : Good TB Z BH O H) (r : ∀ Z H, Rep K Z H z u []) (k : ∀ u H' Z' A', New TB Z H Z' A' H' → Rep K Z' H' z u A' → Q u H') : Q u H := k u H Z [] (New.refl g) (r Z H)
/-- something that stands there is told -/
theorem tellF {z : PV} {u : V} (g : Good TB Z BH O H) (r : Rep K Z H z u []) (k : ∀ u H' Z' A', New TB Z H Z' A' H' → Rep K Z' H' z u A' → Q u H') : Q u H := k u H Z [] (New.refl g) r
theorem New.lst {p : Addr} {o : HO} (g : Good TB Z BH O H) (hp : H p = none) : New TB Z H Z [p] (upd H p o) := by
  have zp : Z p = none := by
    cases e : Z p with
    | none => rfl
    | some u => have := g.le p u e; rw [hp] at this; cases this
  refine ⟨.refl, fun a u e => ?_, fun a u e => ?_, fun a ha => ?_, by simp, fun a h => .inl h, fun a ha => ?_⟩
  · rw [upd_ne (ne_of_none (g.le a u e) hp)]; exact g.le a u e
  · rw [upd_ne (ne_of_none e hp)]; exact e
  · rw [List.mem_singleton.mp ha]; exact hp
  · rw [List.mem_singleton.mp ha]; exact zp
theorem New.tup {p : Addr} {o : HO} (g : Good TB Z BH O H) (hp : H p = none) : New TB Z H (upd Z p o) [] (upd H p o) := by
  have zp : Z p = none := by
    cases e : Z p with
    | none => rfl
    | some u => have := g.le p u e; rw [hp] at this; cases this
  refine ⟨fun a u e => by rw [upd_ne (ne_of_none e zp)]; exact e, fun a u e => ?_, fun a u e => ?_, (fun a ha => by cases ha), List.nodup_nil, fun a h => ?_, fun a ha => by cases ha⟩
  · by_cases e2 : a = p
    · subst e2; rw [upd_same] at e ⊢; exact e
    · rw [upd_ne e2] at e ⊢; exact g.le a u e
  · rw [upd_ne (ne_of_none e hp)]; exact e
  · by_cases e2 : a = p
    · subst e2; exact .inr hp
    · rw [upd_ne e2] at h; exact .inl h
section
variable {X : Cx} {pos : Pos} {a b : Expr} {oa ob : Op}
theorem se_bin {op : Operator} {r : R2} {f : PV → PV → Option PV} (ho : OpR X (binaryOp op) r) (ok : Ok2F K TB f r) (ha : PE X a (tOpd K TB mg W oa)) (hb : PE X b (tOpd K TB mg W ob)) :
    PE X (.BinOp a op b pos) (tE K TB mg W (eOp (f2 f) [oa, ob])) := conv (pe_op ho ha hb) fun _ _ _ h => opsF ok.ok h
theorem se_un {op : UnaryOp} {r : V → Hp → VK → Prop} {f : PV → Option PV} (ho : UnR X (unaryOp op) r) (ok : Ok1F K TB f r) (ha : PE X a (tOpd K TB mg W oa)) :
    PE X (.UnaryOp op a pos) (tE K TB mg W (eOp (f1 f) [oa])) := conv (pe_un ho ha) fun _ _ _ h => opsF ok.ok h
theorem se_cmp {op : CmpOp} {r : R2} {f : PV → PV → Option PV} (ho : OpR X (compareOp op) r) (ok : Ok2F K TB f r) (ha : PE X a (tOpd K TB mg W oa)) (hb : PE X b (tOpd K TB mg W ob)) (hm : behindInMarks op b = false) :
    PE X (.Compare a [op] [b] pos) (tE K TB mg W (eOp (f2 f) [oa, ob])) := conv (pe_cmpR ho ha hb hm) fun _ _ _ h => opsF ok.ok h
theorem se_ix {r : R2} {f : PV → PV → Option PV} (hr : IxR X r) (ok : Ok2F K TB f r) (ha : PE X a (tOpd K TB mg W oa)) (hb : PE X b (tOpd K TB mg W ob)) (hs : PlainIx b) :
    PE X (.Subscript a b pos) (tE K TB mg W (eOp (f2 f) [oa, ob])) := conv (pe_ix hr ha hb hs) fun _ _ _ h => opsF ok.ok h
theorem so_v {i : Nat} {x : Str} (hN : X.N[i]? = some x) (hv : Vis X.env.scope x) (hd : (x == ("__debug__" : Str)) = false := by decide) (hcd : (x == ("__classdict__" : Str)) = false := by decide) : PE X (.Name x pos) (tOpd K TB mg W (.v i)) := pe_var hN hv hd hcd
theorem so_m {m : M PV} {e : Expr} (h : PE X e (tE K TB mg W m)) : PE X e (tOpd K TB mg W (.m m)) := h
theorem sa_nil : PA X [] (tOpds K TB mg W []) := pa_nil
theorem sa_cons {e : Expr} {es : List Expr} {o : Op} {os : List Op} (h : PE X e (tOpd K TB mg W o)) (t : PA X es (tOpds K TB mg W os)) (hs : starEach (e :: es) X.env = (false, eval e X.env) :: starEach es X.env := by rfl) : PA X (e :: es) (tOpds K TB mg W (o :: os)) := pa_cons h t hs
theorem sv_nil : PA X [] (tEs K TB mg W []) := pa_nil
theorem sv_cons {e : Expr} {es : List Expr} {m : M PV} {ms : List (M PV)} (h : PE X e (tE K TB mg W m)) (t : PA X es (tEs K TB mg W ms)) (hs : starEach (e :: es) X.env = (false, eval e X.env) :: starEach es X.env := by rfl) : PA X (e :: es) (tEs K TB mg W (m :: ms)) := pa_cons h t hs
theorem se_tup {es : List Expr} {k : Nat} {ms : List (M PV)} (h : PA X es (tEs K TB mg W ms)) (hl : ms.length ≤ sizeLine := by rw [sizeLine_eq]; decide) : PE X (.Tuple es k pos) (tE K TB mg W (eTup ms)) := conv (pe_tup h) fun _ _ _ q => tE_tup hl q
theorem se_lst {es : List Expr} {ms : List (M PV)} (h : PA X es (tEs K TB mg W ms)) (hl : ms.length ≤ sizeLine := by rw [sizeLine_eq]; decide) : PE X (.List es pos) (tE K TB mg W (eLst ms)) := conv (pe_lst h) fun _ _ _ q => tE_lst hl q
/-- a call of a built-in -/
theorem se_callB {x : Str} {p : Pos} {e : Expr} {es : List Expr} {id : String} {r : List V → Hp → VK → Prop} {f : List PV → Option PV} {ops : List Op} (hc : CallR X (.builtin id) r) (ok : OkF K TB f r) (hg : Gl X x) (hm : X.mg x = none) (hv : bootBuiltins x = some (.builtin id)) (ha : PA X (e :: es) (tOpds K TB mg W ops))
    (hn : x ≠ "__name__" := by decide) (hdb : (x == ("__debug__" : Str)) = false := by decide) (he : starEach (e :: es) X.env = (false, eval e X.env) :: starEach es X.env := by rfl) (hpl : (backTo pos (starEach es X.env)).any (·.1) = false := by rfl) :
    PE X (.Call (.Name x p) (e :: es) [] pos) (tE K TB mg W (eOp f ops)) := conv (pe_callB hc hg hm hv ha hn hdb he hpl) fun _ _ _ h => opsF ok h
theorem se_callTy {x : Str} {p : Pos} {e : Expr} {es : List Expr} {T : String} {r : List V → Hp → VK → Prop} {f : List PV → Option PV} {ops : List Op} (hc : CallR X (.type T) r) (ok : OkF K TB f r) (hg : Gl X x) (hm : X.mg x = none) (hv : bootBuiltins x = some (.type T)) (ha : PA X (e :: es) (tOpds K TB mg W ops))
    (hn : x ≠ "__name__" := by decide) (hdb : (x == ("__debug__" : Str)) = false := by decide) (he : starEach (e :: es) X.env = (false, eval e X.env) :: starEach es X.env := by rfl) (hpl : (backTo pos (starEach es X.env)).any (·.1) = false := by rfl) :
    PE X (.Call (.Name x p) (e :: es) [] pos) (tE K TB mg W (eOp f ops)) := conv (pe_callTy hc hg hm hv ha hn hdb he hpl) fun _ _ _ h => opsF ok h
/-- a call of a def -/
theorem se_call {k : Nat} {x : Str} {ps : List Str} {ks : List Bool} {den : List PV → DOut} {p : Pos} {e : Expr} {es : List Expr} {ops : List Op} (Dd : Gc.DnS X.prog X.w K mg X.base k x ps (spD K TB mg ks den)) (hK : X.K = K) (hM : X.mg = mg) (hr : Room k X.A) (hg : Gl X x) (tk : Takes X W) (ha : PA X (e :: es) (tOpds K TB mg W ops))
    (hdb : (x == ("__debug__" : Str)) = false := by decide) (he : starEach (e :: es) X.env = (false, eval e X.env) :: starEach es X.env := by rfl) (hpl : (backTo pos (starEach es X.env)).any (·.1) = false := by rfl) :
    PE X (.Call (.Name x p) (e :: es) [] pos) (tE K TB mg W (eCall ks den ops)) := by
  subst hK hM
  exact conv (Gc.pe_dnS Dd hr hg (fun σ => passAt tk σ) ha hdb he hpl) fun _ _ _ h => tE_call h
/-- .. without arguments -/
theorem pe_dnS0 {k : Nat} {x : Str} {ps : List Str} {sp : Sp} {p : Pos} {E : L2.St → XK} (Dd : Gc.DnS X.prog X.w X.K X.mg X.base k x ps sp) (hr : Room k X.A) (hg : Gl X x) (hx : ∀ σ, PassesAt (L2.CX X.prog X.w) X σ (E σ)) (hdb : (x == ("__debug__" : Str)) = false := by decide) :
    PE X (.Call (.Name x p) [] [] pos) (tCallS sp E tNil) := by
  obtain ⟨f, fd, hm, hk, hb, Ff⟩ := Dd.ex
  refine ⟨fun pins s σ H Q I h => ?_⟩
  refine wpAny_Call_Name_kw (ld_glob I hg hm ?_ hdb)
  exact PySem.W.callWith_K0 I.kIn hk (run_fnS (us := []) Ff hr hb (hx σ) I .nil h)
theorem se_call0 {k : Nat} {x : Str} {ps : List Str} {ks : List Bool} {den : List PV → DOut} {p : Pos} (Dd : Gc.DnS X.prog X.w K mg X.base k x ps (spD K TB mg ks den)) (hK : X.K = K) (hM : X.mg = mg) (hr : Room k X.A) (hg : Gl X x) (tk : Takes X W)
    (hdb : (x == ("__debug__" : Str)) = false := by decide) : PE X (.Call (.Name x p) [] [] pos) (tE K TB mg W (eCall ks den [])) := by
  subst hK hM
  exact conv (pe_dnS0 (E := WE W) Dd hr hg (fun σ => passAt tk σ) hdb) fun _ _ _ h => tE_call h
end
/-! ### tests -/
def cOf (m : M PV) : M Bool := fun env => match m env with
  | .ok (.bl b) e => .ok b e
  | .ok _ _ => .bad
  | .exc c xs e => .exc c xs e
  | .bad => .bad
def cNot (m : M Bool) : M Bool := fun env => match m env with
  | .ok b e => .ok (!b) e
  | .exc c xs e => .exc c xs e
  | .bad => .bad
def cAnd (m n : M Bool) : M Bool := fun env => match m env with
  | .ok true e => n e
  | .ok false e => .ok false e
  | .exc c xs e => .exc c xs e
  | .bad => .bad
def cOr (m n : M Bool) : M Bool := fun env => match m env with
  | .ok true e => .ok true e
  | .ok false e => n e
  | .exc c xs e => .exc c xs e
  | .bad => .bad
def cTrue : M Bool := fun env => .ok true env
theorem bl_of {x : PV} {v : V} {b : Bool} (s : Sim K TB F env σ (tm ++ [(.bl b, v)]) Z H O) : v = .bl b := by
  obtain ⟨P1, P2, eP, t1, t2⟩ := s.splitTm
  generalize hS : tmE [(PV.bl b, v)] = E at t2
  generalize hV : tmV [(PV.bl b, v)] = EV at t2
  cases t2 with
  | nil => cases hS
  | non v t => cases hS
  | bor h t => cases hS
  | own hk r t =>
    cases hS
    cases hV
    cases r
    rfl
theorem tT_of {m : M PV} {R : Bool → Hp → Prop} (h : tT K TB mg W (cOf m) σ H R) : tE K TB mg W m σ H fun x H' => ∃ k, x = .bl k ∧ R k H' := by
  obtain ⟨F, env, tm, Z, O, s, p⟩ := h
  refine ⟨F, env, tm, Z, O, s, ?_⟩
  unfold cOf at p
  cases q : m env with
  | ok x e =>
    rw [q] at p
    cases x with
    | bl b =>
      intro v H' Z' O' st sm
      obtain ⟨O2, st2, sm2⟩ := sm.dropTm
      exact ⟨b, bl_of (x := .bl b) sm, p H' Z' O2 (st.trans st2) sm2⟩
    | _ => exact p.elim
  | exc c xs e => rw [q] at p; exact p
  | bad => rw [q] at p; exact p
section
variable {X : Cx} {pos : Pos} {a b : Expr} {oa ob : Op} {c : Expr} {rest : List Expr} {m n : M Bool}
theorem st_cmp {op : CmpOp} {r : R2} {f : PV → PV → Option PV} (ho : OpR X (compareOp op) r) (ok : Ok2F K TB f r) (ha : PE X a (tOpd K TB mg W oa)) (hb : PE X b (tOpd K TB mg W ob)) (hm : behindInMarks op b = false) :
    PT X (.Compare a [op] [b] pos) (tT K TB mg W (cOf (eOp (f2 f) [oa, ob]))) := convT (pt_cmpR ho ha hb hm) fun _ _ _ h => opsF ok.ok (tT_of h)
theorem st_val {m : M PV} {e : Expr} (h : PE X e (tE K TB mg W m)) (he : ∀ whole, isTrue e X.env whole = (do let v ← whole; standAt e.pos; holding [v] (truthy v)) := by intro _; rfl) : PT X e (tT K TB mg W (cOf m)) :=
  convT (pt_val h he) fun _ _ _ q => tT_of q
theorem tT_not {R : Bool → Hp → Prop} (h : tT K TB mg W (cNot m) σ H R) : tNot (tT K TB mg W m) σ H R := by
  obtain ⟨F, env, tm, Z, O, s, p⟩ := h
  refine ⟨F, env, tm, Z, O, s, ?_⟩
  unfold cNot at p
  cases q : m env with
  | ok b e => rw [q] at p; exact p
  | exc c xs e => rw [q] at p; exact p
  | bad => rw [q] at p; exact p
theorem tT_and {R : Bool → Hp → Prop} (h : tT K TB mg W (cAnd m n) σ H R) : tAnd (tT K TB mg W m) (tT K TB mg W n) σ H R := by
  obtain ⟨F, env, tm, Z, O, s, p⟩ := h
  refine ⟨F, env, tm, Z, O, s, ?_⟩
  unfold cAnd at p
  cases q : m env with
  | ok b e =>
    rw [q] at p
    intro H' Z' O' st sm
    cases b with
    | false => exact p H' Z' O' st sm
    | true =>
      simp only [if_true]
      refine ⟨F, e, tm, Z', O', sm, ?_⟩
      simp only at p
      cases q2 : n e with
      | ok b2 e2 => rw [q2] at p; exact fun H2 Z2 O2 st2 sm2 => p H2 Z2 O2 (st.trans st2) sm2
      | exc c xs e2 => rw [q2] at p; exact PostX.later p st
      | bad => rw [q2] at p; exact p
  | exc c xs e => rw [q] at p; exact p
  | bad => rw [q] at p; exact p
theorem tT_or {R : Bool → Hp → Prop} (h : tT K TB mg W (cOr m n) σ H R) : tOr (tT K TB mg W m) (tT K TB mg W n) σ H R := by
  obtain ⟨F, env, tm, Z, O, s, p⟩ := h
  refine ⟨F, env, tm, Z, O, s, ?_⟩
  unfold cOr at p
  cases q : m env with
  | ok b e =>
    rw [q] at p
    intro H' Z' O' st sm
    cases b with
    | true => exact p H' Z' O' st sm
    | false =>
      rw [if_neg Bool.false_ne_true]
      refine ⟨F, e, tm, Z', O', sm, ?_⟩
      simp only at p
      cases q2 : n e with
      | ok b2 e2 => rw [q2] at p; exact fun H2 Z2 O2 st2 sm2 => p H2 Z2 O2 (st.trans st2) sm2
      | exc c xs e2 => rw [q2] at p; exact PostX.later p st
      | bad => rw [q2] at p; exact p
  | exc c xs e => rw [q] at p; exact p
  | bad => rw [q] at p; exact p
theorem st_not (h : PT X c (tT K TB mg W m)) : PT X (.UnaryOp .Not c pos) (tT K TB mg W (cNot m)) := convT (pt_not h) fun _ _ _ q => tT_not q
theorem st_and1 (h : PT X a (tT K TB mg W m)) : PW X (.BoolOp .And [a] pos) (tT K TB mg W m) := pw_and1 h
theorem st_or1 (h : PT X a (tT K TB mg W m)) : PW X (.BoolOp .Or [a] pos) (tT K TB mg W m) := pw_or1 h
theorem st_and (h : PT X a (tT K TB mg W m)) (t : PW X (.BoolOp .And (b :: rest) pos) (tT K TB mg W n)) : PW X (.BoolOp .And (a :: b :: rest) pos) (tT K TB mg W (cAnd m n)) := convW (pw_and h t) fun _ _ _ q => tT_and q
theorem st_or (h : PT X a (tT K TB mg W m)) (t : PW X (.BoolOp .Or (b :: rest) pos) (tT K TB mg W n)) : PW X (.BoolOp .Or (a :: b :: rest) pos) (tT K TB mg W (cOr m n)) := convW (pw_or h t) fun _ _ _ q => tT_or q
/-- .. by a value's truth -/
def f1B (f : PV → Option Bool) : List PV → Option Bool
  | [x] => f x
  | _ => none
def truP : PV → Option Bool
  | .non => some false
  | .bl b => some b
  | .int i => some (i != 0)
  | .str z => if z.length ≤ CAP then some ((z.length : Int) != 0) else none
  | .tup xs => some (!xs.isEmpty)
  | .lst _ xs => some (!xs.isEmpty)
  | .rol xs => some (!xs.isEmpty)
  | .dct _ ks _ => some (!ks.isEmpty)
  | .err _ => none
  | .dtt _ _ _ => none
theorem isEmpty_len {α β : Type} {xs : List α} {ys : List β} (h : xs.length = ys.length) : (!xs.isEmpty) = !ys.isEmpty := by
  cases xs <;> cases ys <;> first | rfl | cases h
theorem tru_of {x : PV} {v : V} {A : List Addr} {b : Bool} (lz : Le Z H) (r : Rep K Z H x v A) (h : truP x = some b) : TruV K v H b := by
  cases r with
  | non => cases h; rfl
  | bl b => cases h; rfl
  | int i => cases h; rfl
  | str z =>
    simp only [truP] at h
    split at h
    · rename_i hl
      cases h
      exact ⟨by rw [cap_eq]; exact hl, rfl⟩
    · cases h
  | tup e rs => cases h; exact .inr (.inl ⟨_, lz.sqT e, isEmpty_len rs.length⟩)
  | lstF e rs => cases h; exact .inl ⟨_, SqL.of (lz _ _ e), isEmpty_len rs.length⟩
  | rol e rs => cases h; exact .inl ⟨_, lz.sqL e, isEmpty_len rs.length⟩
  | lstO e rs => cases h; exact .inl ⟨_, SqL.of e, isEmpty_len rs.length⟩
  | dctF e l rs => cases h; exact .inr (.inr ⟨_, lz _ _ e, isEmpty_len (by rw [List.length_zip, l, Nat.min_self])⟩)
  | dctO e l rs => cases h; exact .inr (.inr ⟨_, e, isEmpty_len (by rw [List.length_zip, l, Nat.min_self])⟩)
  | err e => cases h
  | dttF e l rs => cases h
  | dttO e l rs => cases h
theorem okB_tru : OkB K TB (f1B truP) (fun vs H R => match vs with | [x] => ∃ k, TruV K x H k ∧ R k H | _ => False) := by
  intro Z BH O H xs vs z R g rs hf k
  cases rs with
  | nil => cases hf
  | cons A r1 t =>
    cases t with
    | nil => exact ⟨z, tru_of g.le r1 hf, k H Z (New.refl g)⟩
    | cons B r2 t => cases hf
theorem st_tru (hK : X.K = K) (ha : PE X a (tOpd K TB mg W oa)) (he : ∀ whole, isTrue a X.env whole = (do let v ← whole; standAt a.pos; holding [v] (truthy v)) := by intro _; rfl) : PT X a (tT K TB mg W (eOpT (f1B truP) [oa])) := by
  subst hK
  exact convT (pt_truth ha he) fun _ _ _ h => opsB okB_tru h
/-! ### bools as values -/
def eNot (m : M PV) : M PV := fun env => match m env with
  | .ok (.bl b) e => .ok (.bl (!b)) e
  | .ok _ _ => .bad
  | .exc c xs e => .exc c xs e
  | .bad => .bad
def eAnd (m n : M PV) : M PV := fun env => match m env with
  | .ok (.bl true) e => n e
  | .ok (.bl false) e => .ok (.bl false) e
  | .ok _ _ => .bad
  | .exc c xs e => .exc c xs e
  | .bad => .bad
def eOr (m n : M PV) : M PV := fun env => match m env with
  | .ok (.bl true) e => .ok (.bl true) e
  | .ok (.bl false) e => n e
  | .ok _ _ => .bad
  | .exc c xs e => .exc c xs e
  | .bad => .bad
def eIf (c : M Bool) (m n : M PV) : M PV := fun env => match c env with
  | .ok t e => if t then m e else n e
  | .exc c xs e => .exc c xs e
  | .bad => .bad
/-- later, of what an expression leads to -/
theorem PostE.later {r : Out PV} (p : PostE K TB mg W F σ tm r Z O H Q) {Z1 : Hp} {O1 : List Addr} {H1 : Hp} (s : Step TB Z O H Z1 O1 H1) : PostE K TB mg W F σ tm r Z1 O1 H1 Q := by
  cases r with
  | ok x e => exact fun v H' Z' O' st sm => p v H' Z' O' (s.trans st) sm
  | exc c xs e => exact PostX.later p s
  | bad => exact p
theorem tE_not {m : M PV} (h : tE K TB mg W (eNot m) σ H Q) : tNotV (tE K TB mg W m) σ H Q := by
  obtain ⟨F, env, tm, Z, O, s, p⟩ := h
  refine ⟨F, env, tm, Z, O, s, ?_⟩
  unfold eNot at p
  cases q : m env with
  | ok x e =>
    rw [q] at p
    cases x with
    | bl b =>
      intro v H' Z' O' st sm
      obtain ⟨O2, st2, sm2⟩ := sm.dropTm
      exact ⟨b, bl_of (x := .bl b) sm, p _ H' Z' O2 (st.trans st2) (sm2.push (.bl _))⟩
    | _ => exact p.elim
  | exc c xs e => rw [q] at p; exact p
  | bad => rw [q] at p; exact p
theorem tE_and {m n : M PV} (h : tE K TB mg W (eAnd m n) σ H Q) : tAndV (tE K TB mg W m) (tE K TB mg W n) σ H Q := by
  obtain ⟨F, env, tm, Z, O, s, p⟩ := h
  refine ⟨F, env, tm, Z, O, s, ?_⟩
  unfold eAnd at p
  cases q : m env with
  | ok x e =>
    rw [q] at p
    cases x with
    | bl b =>
      intro v H' Z' O' st sm
      obtain ⟨O2, st2, sm2⟩ := sm.dropTm
      refine ⟨b, bl_of (x := .bl b) sm, ?_⟩
      cases b with
      | true => exact ⟨F, e, tm, Z', O2, sm2, PostE.later p (st.trans st2)⟩
      | false => exact p _ H' Z' O2 (st.trans st2) (sm2.push (.bl _))
    | _ => exact p.elim
  | exc c xs e => rw [q] at p; exact p
  | bad => rw [q] at p; exact p
theorem tE_or {m n : M PV} (h : tE K TB mg W (eOr m n) σ H Q) : tOrV (tE K TB mg W m) (tE K TB mg W n) σ H Q := by
  obtain ⟨F, env, tm, Z, O, s, p⟩ := h
  refine ⟨F, env, tm, Z, O, s, ?_⟩
  unfold eOr at p
  cases q : m env with
  | ok x e =>
    rw [q] at p
    cases x with
    | bl b =>
      intro v H' Z' O' st sm
      obtain ⟨O2, st2, sm2⟩ := sm.dropTm
      refine ⟨b, bl_of (x := .bl b) sm, ?_⟩
      cases b with
      | false => exact ⟨F, e, tm, Z', O2, sm2, PostE.later p (st.trans st2)⟩
      | true => exact p _ H' Z' O2 (st.trans st2) (sm2.push (.bl _))
    | _ => exact p.elim
  | exc c xs e => rw [q] at p; exact p
  | bad => rw [q] at p; exact p
theorem tE_if {c : M Bool} {m n : M PV} (h : tE K TB mg W (eIf c m n) σ H Q) : tIf (tT K TB mg W c) (tE K TB mg W m) (tE K TB mg W n) σ H Q := by
  obtain ⟨F, env, tm, Z, O, s, p⟩ := h
  refine ⟨F, env, tm, Z, O, s, ?_⟩
  unfold eIf at p
  cases q : c env with
  | ok t e =>
    rw [q] at p
    intro H' Z' O' st sm
    cases t with
    | true => exact ⟨F, e, tm, Z', O', sm, PostE.later p st⟩
    | false => exact ⟨F, e, tm, Z', O', sm, PostE.later p st⟩
  | exc c xs e => rw [q] at p; exact p
  | bad => rw [q] at p; exact p
theorem se_not {m : M PV} (h : PE X a (tE K TB mg W m)) : PE X (.UnaryOp .Not a pos) (tE K TB mg W (eNot m)) := conv (pe_not h) fun _ _ _ q => tE_not q
theorem se_and {m n : M PV} (h : PE X a (tE K TB mg W m)) (t : PE X (.BoolOp .And (b :: rest) pos) (tE K TB mg W n)) : PE X (.BoolOp .And (a :: b :: rest) pos) (tE K TB mg W (eAnd m n)) := conv (pe_and h t) fun _ _ _ q => tE_and q
theorem se_or {m n : M PV} (h : PE X a (tE K TB mg W m)) (t : PE X (.BoolOp .Or (b :: rest) pos) (tE K TB mg W n)) : PE X (.BoolOp .Or (a :: b :: rest) pos) (tE K TB mg W (eOr m n)) := conv (pe_or h t) fun _ _ _ q => tE_or q
theorem se_one {op : BoolOp} {m : M PV} (h : PE X a (tE K TB mg W m)) : PE X (.BoolOp op [a] pos) (tE K TB mg W m) := pe_one h
theorem se_if {m : M Bool} {x y : M PV} (hc : PT X c (tT K TB mg W m)) (ha : PE X a (tE K TB mg W x)) (hb : PE X b (tE K TB mg W y)) : PE X (.IfExp c a b pos) (tE K TB mg W (eIf m x y)) := conv (pe_ifExp hc ha hb) fun _ _ _ q => tE_if q
end
/-! ### statements -/
section
variable {X : Cx} {pos : Pos} {e : Expr} {m : M PV} {a b : SM} {st : Stmt} {rest : List Stmt}
theorem ss_nil : PSs X [] (tS K TB mg W sSkip) := convSs pss_nil fun _ _ _ => tS_skip
theorem ss_cons (h : PS X st (tS K TB mg W a)) (t : PSs X rest (tS K TB mg W b)) : PSs X (st :: rest) (tS K TB mg W (sSeq a b)) := convSs (pss_cons h t) fun _ _ _ => tS_seq
theorem ss_one (h : PS X st (tS K TB mg W a)) : PSs X [st] (tS K TB mg W a) := pss_one h
theorem ss_set {i : Nat} {x : Str} {pos' : Pos} (hN : X.N.Nodup) (hi : X.N[i]? = some x) (hx : Loc X.env.scope x) (he : PE X e (tE K TB mg W m)) (hs : swapsWith e (some (.Name x pos')) pos.line X.env = pure false := by rfl) (hf : X.fn x = true ∨ X.env.scope.names.lookup x = some .local := by first | exact .inl rfl | exact .inr rfl | assumption) :
    PS X (.Assign [.Name x pos'] e pos) (tS K TB mg W (sAsg i m)) := convS (ps_set hN hi hx he hs hf) fun _ _ _ => tS_asg
theorem ss_expr (he : PE X e (tE K TB mg W m)) (hs : swapsWith e none pos.line X.env = pure false := by rfl) : PS X (.Expr e pos) (tS K TB mg W (sExpr m)) := convS (ps_expr he hs) fun _ _ _ => tS_expr
theorem ss_ret (he : PE X e (tE K TB mg W m)) : PS X (.Return (some e) pos) (tS K TB mg W (sRet m)) := convS (ps_ret he) fun _ _ _ => tS_ret
theorem ss_retN : PS X (.Return none pos) (tS K TB mg W sRetN) := convS ps_retN fun _ _ _ => tS_retN
theorem ss_retV {i : Nat} {x : Str} {p : Pos} (hN : X.N[i]? = some x) (hv : Vis X.env.scope x) (hd : (x == ("__debug__" : Str)) = false := by decide) (hcd : (x == ("__classdict__" : Str)) = false := by decide) : PS X (.Return (some (.Name x p)) pos) (tS K TB mg W (sRetV i)) :=
  convS (ps_ret (pe_var hN hv hd hcd)) fun _ _ _ => tS_retV
theorem ss_if {c : Expr} {x y : List Stmt} {tc : M Bool} (hc : PT X c (tT K TB mg W tc)) (ha : PSs X x (tS K TB mg W a)) (hb : PSs X y (tS K TB mg W b)) : PS X (.If c x y pos) (tS K TB mg W (sIf tc a b)) := convS (ps_if hc ha hb) fun _ _ _ => tS_if
theorem ss_pass : PS X (.Pass pos) (tS K TB mg W sSkip) := convS ps_pass fun _ _ _ => tS_skip
theorem ss_break : PS X (.Break pos) (tS K TB mg W sBk) := convS ps_break fun D σ H h => by
  obtain ⟨F, env, tm, Z, O, s, p⟩ := h
  exact p σ H Z O .refl s
theorem ss_continue : PS X (.Continue pos) (tS K TB mg W sCt) := convS ps_continue fun D σ H h => by
  obtain ⟨F, env, tm, Z, O, s, p⟩ := h
  exact p σ H Z O .refl s
theorem ss_for {iter tgt : Expr} {body : List Stmt} {src : Src} {g : Bnd} {is : List Nat} {tg : TG} (hp : PassesOwn (model X.prog X.w) X.A X.env X.xe) (hc : X.calm = true) (og : OkG K TB is g tg) (hi : PI X tgt iter (tI K TB mg W src)) (hg : PG X tgt tg) (hb : PSs X body (tS K TB mg W a))
    (hs : ∀ x, foldedSetIterable iter X.env x = pure x := by intro _; rfl) : PS X (.For tgt iter body [] pos) (tS K TB mg W (sFor src g a)) := convS (ps_for hp hc hi hg hb hs) fun _ _ _ => tS_for og
theorem ss_while {c : Expr} {body : List Stmt} {tc : M Bool} (n : Nat) (hp : PassesOwn (model X.prog X.w) X.A X.env X.xe) (hc : PT X c (tT K TB mg W tc)) (hb : PSs X body (tS K TB mg W a)) : PS X (.While c body [] pos) (tS K TB mg W (mWhile tc a n)) := convS (ps_while hp hc hb) fun _ _ _ => tS_while
end
end Ev

set_option Elab.async false
set_option linter.all false
set_option maxRecDepth 100000
set_option maxHeartbeats 2000000
/-! Operations by values. -/
namespace Ev
open PySem PySem.Spec PyProof.Rows L2 GxR Gx Gq
variable {K : PySem.W.Frag} {Z Z' H H' BH BH' : Hp} {TB : List Addr} {F : Fx} {env env' : Env} {σ : List (Option V)} {tm ts : Tm} {O O' : List Addr} {mg : Str → Option Value} {W : WX} {Q Q' : VK} {D : Ends}
/-! ### whole numbers -/
def iOp (C : Int → Int → Bool) (g : Int → Int → PV) : PV → PV → Option PV
  | .int i, .int j => if C i j then some (g i j) else none
  | _, _ => none
theorem ok_rI {C : Int → Int → Bool} {C' : Int → Int → Prop} {g : Int → Int → PV} {g' : Int → Int → V} (hC : ∀ i j, C i j = true → C' i j) (hg : ∀ i j Z H, Rep K Z H (g i j) (g' i j) []) : Ok2F K TB (iOp C g) (rI C' g') := by
  intro Z BH O H x y v w A B z Q gd r1 r2 hf k
  unfold iOp at hf
  split at hf
  · rename_i i j
    split at hf
    · rename_i hc
      cases hf
      cases r1
      cases r2
      exact ⟨i, j, rfl, rfl, hC _ _ hc, tell gd (hg i j) k⟩
    · cases hf
  · cases hf
theorem ok_rI0 {g : Int → Int → PV} {g' : Int → Int → V} (hg : ∀ i j Z H, Rep K Z H (g i j) (g' i j) []) : Ok2F K TB (iOp (fun _ _ => true) g) (rI0 g') := by
  intro Z BH O H x y v w A B z Q gd r1 r2 hf k
  obtain ⟨i, j, e1, e2, _, q⟩ := ok_rI (C' := fun _ _ => True) (fun _ _ _ => trivial) hg Z BH O H x y v w A B z Q gd r1 r2 hf k
  exact ⟨i, j, e1, e2, q⟩
def addI : PV → PV → Option PV := iOp (fun _ _ => true) fun i j => .int (i + j)
def subI : PV → PV → Option PV := iOp (fun _ _ => true) fun i j => .int (i - j)
def mulC (i j : Int) : Bool := decide (i.natAbs < 2 ^ 64) || decide (j.natAbs < 2 ^ 64)
def mulI : PV → PV → Option PV := iOp mulC fun i j => .int (i * j)
def modI : PV → PV → Option PV := iOp (fun _ j => decide (0 < j)) fun i j => .int (i % j)
def divI : PV → PV → Option PV := iOp (fun _ j => decide (0 < j) && decide (j < 1073741824)) fun i j => .int (i / j)
def powI : PV → PV → Option PV := iOp (fun i j => decide (0 ≤ j) && (decide (j ≤ 1000000) && decide (i.natAbs < 2 ^ 64))) fun i j => .int (i ^ j.toNat)
theorem ok_addI : Ok2F K TB addI (rI0 fun i j => .int (i + j)) := ok_rI0 fun _ _ _ _ => .int _
theorem ok_subI : Ok2F K TB subI (rI0 fun i j => .int (i - j)) := ok_rI0 fun _ _ _ _ => .int _
theorem ok_mulI : Ok2F K TB mulI (rI CMul fun i j => .int (i * j)) := ok_rI (fun i j h => by
  unfold mulC at h
  rw [Bool.or_eq_true, decide_eq_true_eq, decide_eq_true_eq] at h
  unfold CMul
  omega) fun _ _ _ _ => .int _
theorem ok_modI : Ok2F K TB modI (rI (fun _ j => 0 < j) fun i j => .int (i % j)) := ok_rI (fun i j h => of_decide_eq_true h) fun _ _ _ _ => .int _
theorem ok_divI : Ok2F K TB divI (rI CDiv fun i j => .int (i / j)) := ok_rI (fun i j h => by
  rw [Bool.and_eq_true, decide_eq_true_eq, decide_eq_true_eq] at h
  exact h) fun _ _ _ _ => .int _
theorem ok_powI : Ok2F K TB powI (rI CPow fun i j => .int (i ^ j.toNat)) := ok_rI (fun i j h => by
  rw [Bool.and_eq_true, Bool.and_eq_true, decide_eq_true_eq, decide_eq_true_eq, decide_eq_true_eq] at h
  exact h) fun _ _ _ _ => .int _
def negI : PV → Option PV
  | .int i => some (.int (-i))
  | _ => none
theorem ok_negI : Ok1F K TB negI (rU fun i => .int (-i)) := by
  intro Z BH O H x v A z Q gd r1 hf k
  unfold negI at hf
  split at hf
  · cases hf
    cases r1
    exact ⟨_, rfl, tell gd (fun _ _ => .int _) k⟩
  · cases hf
/-! ### texts, tuples, lists put together -/
def addS : PV → PV → Option PV
  | .str x, .str y => if x.length + y.length ≤ CAP then some (.str (x ++ y)) else none
  | _, _ => none
theorem ok_addS : Ok2F K TB addS (fun x y H Q => ∃ i j, x = .str i ∧ y = .str j ∧ i.length + j.length ≤ sizeLine ∧ Q (.str (i ++ j)) H) := by
  intro Z BH O H x y v w A B z Q gd r1 r2 hf k
  unfold addS at hf
  split at hf
  · rename_i a b
    split at hf
    · rename_i hl
      cases hf
      cases r1
      cases r2
      exact ⟨a, b, rfl, rfl, by rw [cap_eq]; exact hl, tell gd (fun _ _ => .str _) k⟩
    · cases hf
  · cases hf
theorem Reps.app {xs ys : List PV} {vs ws : List V} {A B : List Addr} (h : Reps K Z H xs vs A) (t : Reps K Z H ys ws B) : Reps K Z H (xs ++ ys) (vs ++ ws) (A ++ B) := by
  induction xs generalizing vs A with
  | nil => cases h; exact t
  | cons x xs ih =>
    cases h with
    | cons h r =>
      rw [List.append_assoc]
      exact .cons h (ih r)
def addT : PV → PV → Option PV
  | .tup xs, .tup ys => if PV.frees xs && (PV.frees ys && decide (xs.length + ys.length ≤ CAP)) then some (.tup (xs ++ ys)) else none
  | _, _ => none
theorem Reps.free0 {xs : List PV} {vs : List V} {A : List Addr} (h : Reps K Z H xs vs A) (f : PV.frees xs = true) : Reps K Z H xs vs [] := by
  have e := h.nil_of_free f
  subst e
  exact h
theorem ok_addT : Ok2F K TB addT (rCatA K) := by
  intro Z BH O H x y v w A B z Q gd r1 r2 hf k
  unfold addT at hf
  split at hf
  · rename_i xs ys
    split at hf
    · rename_i hl
      cases hf
      rw [Bool.and_eq_true, Bool.and_eq_true, decide_eq_true_eq] at hl
      obtain ⟨f1, f2, hl⟩ := hl
      cases r1 with
      | tup e1 t1 =>
        cases r2 with
        | tup e2 t2 =>
          rename_i a vs b ws
          have t1 := t1.free0 f1
          have t2 := t2.free0 f2
          refine ⟨a, b, vs, ws, rfl, rfl, gd.le.sqT e1, gd.le.sqT e2, by rw [cap_eq, ← t1.length, ← t2.length]; exact hl, fun h0 => ?_, fun h1 h0 => ?_, fun h1 h2 p hp => ?_⟩
          · subst h0
            cases t1
            exact tellF gd (.tup e2 t2) k
          · subst h0
            cases t2
            rw [List.append_nil] at k
            exact tellF gd (.tup e1 t1) k
          · have n := New.tup (TB := TB) (o := .tup (vs ++ ws)) gd hp
            refine k (.ref p) _ _ [] n (.tup (SqT.of upd_same) ?_)
            have q := t1.app t2
            exact q.mono n.z fun a ha => by cases ha
    · cases hf
  · cases hf
def addL : PV → PV → Option PV
  | .lst _ xs, .lst _ ys => if PV.frees xs && (PV.frees ys && decide (xs.length + ys.length ≤ CAP)) then some (.lst true (xs ++ ys)) else none
  | _, _ => none
theorem lst_at {o : Bool} {xs : List PV} {v : V} {A : List Addr} (lz : Le Z H) (r : Rep K Z H (.lst o xs) v A) : ∃ a vs B, v = .ref a ∧ H a = some (.lst vs) ∧ Reps K Z H xs vs B := by
  cases r with
  | lstF e t => exact ⟨_, _, _, rfl, lz _ _ e, t⟩
  | lstO e t => exact ⟨_, _, _, rfl, e, t⟩
theorem ok_addL : Ok2F K TB addL rCat := by
  intro Z BH O H x y v w A B z Q gd r1 r2 hf k
  unfold addL at hf
  split at hf
  · rename_i o1 xs o2 ys
    split at hf
    · rename_i hl
      cases hf
      rw [Bool.and_eq_true, Bool.and_eq_true, decide_eq_true_eq] at hl
      obtain ⟨f1, f2, hl⟩ := hl
      obtain ⟨a, vs, A1, rfl, e1, t1⟩ := lst_at gd.le r1
      obtain ⟨b, ws, B1, rfl, e2, t2⟩ := lst_at gd.le r2
      have t1 := t1.free0 f1
      have t2 := t2.free0 f2
      refine ⟨a, b, vs, ws, rfl, rfl, e1, e2, by rw [cap_eq, ← t1.length, ← t2.length]; exact hl, fun p hp => ?_⟩
      have n := New.lst (TB := TB) (o := .lst (vs ++ ws)) gd hp
      refine k (.ref p) _ _ [p] n (.lstO upd_same ?_)
      have q := t1.app t2
      exact q.mono .refl fun a ha => by cases ha
    · cases hf
  · cases hf
/-- + of whatever -/
def addP : PV → PV → Option PV := orF addI (orF addS (orF addT addL))
def rAddP (K : PySem.W.Frag) : R2 := fun x y H Q => rI0 (fun i j => .int (i + j)) x y H Q ∨ ((∃ i j, x = .str i ∧ y = .str j ∧ i.length + j.length ≤ sizeLine ∧ Q (.str (i ++ j)) H) ∨ (rCatA K x y H Q ∨ rCat x y H Q))
theorem ok_addP : Ok2F K TB addP (rAddP K) := ok_addI.or (ok_addS.or (ok_addT.or ok_addL))
theorem op_addP {X : Cx} : OpR X (binaryOp .Add) (rAddP X.K) := op_add.or (op_add_str.or (op_catA.or op_cat))
/-! ### comparisons -/
def ltI : PV → PV → Option PV := iOp (fun _ _ => true) fun i j => .bl (decide (i < j))
def leI : PV → PV → Option PV := iOp (fun _ _ => true) fun i j => .bl (decide (i ≤ j))
def gtI : PV → PV → Option PV := iOp (fun _ _ => true) fun i j => .bl (decide (j < i))
def geI : PV → PV → Option PV := iOp (fun _ _ => true) fun i j => .bl (decide (j ≤ i))
theorem ok_ltI : Ok2F K TB ltI (rI0 fun i j => .bl (decide (i < j))) := ok_rI0 fun _ _ _ _ => .bl _
theorem ok_leI : Ok2F K TB leI (rI0 fun i j => .bl (decide (i ≤ j))) := ok_rI0 fun _ _ _ _ => .bl _
theorem ok_gtI : Ok2F K TB gtI (rI0 fun i j => .bl (decide (j < i))) := ok_rI0 fun _ _ _ _ => .bl _
theorem ok_geI : Ok2F K TB geI (rI0 fun i j => .bl (decide (j ≤ i))) := ok_rI0 fun _ _ _ _ => .bl _
def leS : PV → PV → Option PV
  | .str x, .str y => some (.bl (!decide (y.cps.toList < x.cps.toList)))
  | _, _ => none
theorem ok_leS : Ok2F K TB leS (fun x y H Q => ∃ i j, x = .str i ∧ y = .str j ∧ Q (.bl (!decide (j.cps.toList < i.cps.toList))) H) := by
  intro Z BH O H x y v w A B z Q gd r1 r2 hf k
  unfold leS at hf
  split at hf
  · cases hf
    cases r1
    cases r2
    exact ⟨_, _, rfl, rfl, tell gd (fun _ _ => .bl _) k⟩
  · cases hf
mutual
def PV.dat : PV → Option PyData
  | .non => some .none
  | .bl b => some (.bool b)
  | .int i => some (.int i)
  | .str z => some (.str z)
  | .tup xs => (PV.dats xs).map .tuple
  | .lst _ xs => (PV.dats xs).map .list
  | .rol xs => (PV.dats xs).map .list
  | .dct _ _ _ => none
  | .err _ => none
  | .dtt _ _ _ => none
def PV.dats : List PV → Option (List PyData)
  | [] => some []
  | x :: xs => match x.dat, PV.dats xs with
    | some d, some ds => some (d :: ds)
    | _, _ => none
end
mutual
theorem Rep.dp {x : PV} {v : V} {A : List Addr} {d : PyData} (lz : Le Z H) (r : Rep K Z H x v A) (h : x.dat = some d) : Dp K H v d := by
  cases r with
  | non => cases h; exact .non
  | bl b => cases h; exact .bl b
  | int i => cases h; exact .int i
  | str z => cases h; exact .str z
  | tup e t =>
    rename_i a xs vs
    simp only [PV.dat] at h
    cases q : PV.dats xs with
    | none => rw [q] at h; cases h
    | some ds => rw [q] at h; cases h; exact .tup (lz.sqT e) (t.dp lz q)
  | lstF e t =>
    rename_i a xs vs
    simp only [PV.dat] at h
    cases q : PV.dats xs with
    | none => rw [q] at h; cases h
    | some ds => rw [q] at h; cases h; exact .lst (SqL.of (lz _ _ e)) (t.dp lz q)
  | rol e t =>
    rename_i a xs vs
    simp only [PV.dat] at h
    cases q : PV.dats xs with
    | none => rw [q] at h; cases h
    | some ds => rw [q] at h; cases h; exact .lst (lz.sqL e) (t.dp lz q)
  | lstO e t =>
    rename_i a xs vs A0
    simp only [PV.dat] at h
    cases q : PV.dats xs with
    | none => rw [q] at h; cases h
    | some ds => rw [q] at h; cases h; exact .lst (SqL.of e) (t.dp lz q)
  | dctF e l t => cases h
  | dctO e l t => cases h
  | err e => cases h
  | dttF e l t => cases h
  | dttO e l t => cases h
theorem Reps.dp {xs : List PV} {vs : List V} {A : List Addr} {ds : List PyData} (lz : Le Z H) (r : Reps K Z H xs vs A) (h : PV.dats xs = some ds) : DpAll K H vs ds := by
  cases r with
  | nil => cases h; exact .nil
  | cons r t =>
    rename_i x v xs vs A B
    unfold PV.dats at h
    split at h
    · rename_i d ds q1 q2
      cases h
      exact .cons (r.dp lz q1) (t.dp lz q2)
    · cases h
end
def scalP : PV → PV → Bool
  | .non, .non => true | .non, .int _ => true | .int _, .non => true | .non, .bl _ => true | .bl _, .non => true | .non, .str _ => true | .str _, .non => true
  | .int _, .int _ => true | .bl _, .bl _ => true | .str _, .str _ => true
  | .int _, .str _ => true | .str _, .int _ => true | .bl _, .str _ => true | .str _, .bl _ => true
  | _, _ => false
def sameP : PV → PV → Bool
  | .non, .non => true
  | .bl a, .bl b => a == b
  | .int a, .int b => a == b
  | .str a, .str b => a == b
  | _, _ => false
def eqP : PV → PV → Option Bool := fun x y => if scalP x y then some (sameP x y) else match x.dat, y.dat with
  | some d, some e => if SeqAt.shaped d && SeqAt.shaped e then some (PyData.eqv d e) else none
  | _, _ => none
theorem scal_of {x y : PV} {v w : V} {A B : List Addr} (r1 : Rep K Z H x v A) (r2 : Rep K Z H y w B) (h : scalP x y = true) : scal v w = true ∧ decide (v = w) = sameP x y := by
  cases r1 <;> cases r2 <;> first | exact ⟨rfl, dec_int⟩ | exact ⟨rfl, dec_bl⟩ | exact ⟨rfl, dec_str⟩ | exact ⟨rfl, rfl⟩ | exact ⟨rfl, by simp [sameP]⟩ | exact absurd h Bool.false_ne_true
def lift2 (f : PV → PV → Option Bool) (g : Bool → Bool) : PV → PV → Option PV := fun x y => match f x y with
  | some b => some (.bl (g b))
  | none => none
theorem ok_eqP : Ok2F K TB (lift2 eqP id) (fun x y H Q => rEq x y H Q ∨ rEqD K x y H Q) := by
  intro Z BH O H x y v w A B z Q gd r1 r2 hf k
  unfold lift2 at hf
  split at hf
  · rename_i b hb
    cases hf
    unfold eqP at hb
    split at hb
    · rename_i hs
      cases hb
      obtain ⟨h1, h2⟩ := scal_of r1 r2 hs
      exact .inl ⟨h1, by rw [h2]; exact tell gd (fun _ _ => .bl _) k⟩
    · split at hb
      · rename_i d e q1 q2
        split at hb
        · rename_i hs
          cases hb
          rw [Bool.and_eq_true] at hs
          exact .inr ⟨d, e, r1.dp gd.le q1, r2.dp gd.le q2, hs.1, hs.2, tell gd (fun _ _ => .bl _) k⟩
        · cases hb
      · cases hb
  · cases hf
theorem ok_neP : Ok2F K TB (lift2 eqP not) (fun x y H Q => rNe x y H Q ∨ rNeD K x y H Q) := by
  intro Z BH O H x y v w A B z Q gd r1 r2 hf k
  unfold lift2 at hf
  split at hf
  · rename_i b hb
    cases hf
    unfold eqP at hb
    split at hb
    · rename_i hs
      cases hb
      obtain ⟨h1, h2⟩ := scal_of r1 r2 hs
      exact .inl ⟨h1, by rw [h2]; exact tell gd (fun _ _ => .bl _) k⟩
    · split at hb
      · rename_i d e q1 q2
        split at hb
        · rename_i hs
          cases hb
          rw [Bool.and_eq_true] at hs
          exact .inr ⟨d, e, r1.dp gd.le q1, r2.dp gd.le q2, hs.1, hs.2, tell gd (fun _ _ => .bl _) k⟩
        · cases hb
      · cases hb
  · cases hf
theorem op_eqP {X : Cx} (hu : X.A.units + 64 < cLine) : OpR X (compareOp .Eq) (fun x y H Q => rEq x y H Q ∨ rEqD X.K x y H Q) := op_eq.or (op_eqD hu)
theorem op_neP {X : Cx} (hu : X.A.units + 64 < cLine) : OpR X (compareOp .NotEq) (fun x y H Q => rNe x y H Q ∨ rNeD X.K x y H Q) := op_ne.or (op_neD hu)
/-- is None, is not None -/
def isN : PV → PV → Option Bool
  | .non, .non => some true
  | _, .non => some false
  | _, _ => none
theorem isN_of {x y : PV} {v w : V} {A B : List Addr} {b : Bool} (r1 : Rep K Z H x v A) (r2 : Rep K Z H y w B) (h : isN x y = some b) : w = .non ∧ decide (v = .non) = b := by
  unfold isN at h
  split at h
  · cases h; cases r1; cases r2; exact ⟨rfl, rfl⟩
  · rename_i hn
    cases h
    cases r2
    refine ⟨rfl, decide_eq_false fun e => ?_⟩
    subst e
    cases r1
    exact hn rfl
  · cases h
theorem ok_isN : Ok2F K TB (lift2 isN id) (fun x y H Q => y = .non ∧ Q (.bl (decide (x = .non))) H) := by
  intro Z BH O H x y v w A B z Q gd r1 r2 hf k
  unfold lift2 at hf
  split at hf
  · rename_i b hb
    cases hf
    obtain ⟨h1, h2⟩ := isN_of r1 r2 hb
    exact ⟨h1, by rw [h2]; exact tell gd (fun _ _ => .bl _) k⟩
  · cases hf
theorem ok_notN : Ok2F K TB (lift2 isN not) (fun x y H Q => y = .non ∧ Q (.bl (!decide (x = .non))) H) := by
  intro Z BH O H x y v w A B z Q gd r1 r2 hf k
  unfold lift2 at hf
  split at hf
  · rename_i b hb
    cases hf
    obtain ⟨h1, h2⟩ := isN_of r1 r2 hb
    exact ⟨h1, by rw [h2]; exact tell gd (fun _ _ => .bl _) k⟩
  · cases hf
/-- in a list, a tuple of flat things -/
def flatP : PV → Bool
  | .non => true
  | .bl _ => true
  | .int _ => true
  | .str _ => true
  | _ => false
def eqFP : PV → PV → Bool
  | .non, .non => true
  | .bl a, .bl b => a == b
  | .bl a, .int b => (if a then 1 else 0) == b
  | .int a, .bl b => a == (if b then 1 else 0)
  | .int a, .int b => a == b
  | .str a, .str b => a == b
  | _, _ => false
theorem flat_of {x : PV} {v : V} {A : List Addr} (r : Rep K Z H x v A) (h : flatP x = true) : flatV v = true := by
  cases r <;> first | rfl | cases h
theorem eqF_of {x y : PV} {v w : V} {A B : List Addr} (r1 : Rep K Z H x v A) (r2 : Rep K Z H y w B) (h1 : flatP x = true) (h2 : flatP y = true) : eqV v w = eqFP x y := by
  cases r1 <;> first | exact absurd h1 Bool.false_ne_true | (cases r2 <;> first | rfl | exact absurd h2 Bool.false_ne_true | simp [eqV, eqFP])
theorem flats_of {xs : List PV} {vs : List V} {A : List Addr} (r : Reps K Z H xs vs A) (h : xs.all flatP = true) : vs.all flatV = true := by
  induction xs generalizing vs A with
  | nil => cases r; rfl
  | cons x xs ih =>
    cases r with
    | cons r t =>
      rw [List.all_cons, Bool.and_eq_true] at h ⊢
      exact ⟨flat_of r h.1, ih t h.2⟩
theorem inV_of {x : PV} {v : V} {A B : List Addr} {xs : List PV} {vs : List V} (r : Rep K Z H x v A) (h : flatP x = true) (t : Reps K Z H xs vs B) (hs : xs.all flatP = true) : inV v vs = xs.any fun y => eqFP y x := by
  induction xs generalizing vs B with
  | nil => cases t; rfl
  | cons y ys ih =>
    cases t with
    | cons ry t =>
      rw [List.all_cons, Bool.and_eq_true] at hs
      show (eqV _ v || inV v _) = _
      rw [eqF_of ry r hs.1 h, ih t hs.2] <;> rfl
def seqP : PV → Option (List PV)
  | .tup xs => some xs
  | .lst _ xs => some xs
  | .rol xs => some xs
  | _ => none
theorem seq_at {x : PV} {xs : List PV} {v : V} {A : List Addr} (lz : Le Z H) (r : Rep K Z H x v A) (h : seqP x = some xs) : ∃ a vs B, v = .ref a ∧ (SqL K H a vs ∨ SqT K H a vs) ∧ Reps K Z H xs vs B := by
  cases r with
  | tup e t => cases h; exact ⟨_, _, _, rfl, .inr (lz.sqT e), t⟩
  | lstF e t => cases h; exact ⟨_, _, _, rfl, .inl (SqL.of (lz _ _ e)), t⟩
  | rol e t => cases h; exact ⟨_, _, _, rfl, .inl (lz.sqL e), t⟩
  | lstO e t => cases h; exact ⟨_, _, _, rfl, .inl (SqL.of e), t⟩
  | _ => cases h
def inSeqP (neg : Bool) : PV → PV → Option PV := fun x y => match seqP y with
  | some ys => if flatP x && ys.all flatP then some (.bl (if neg then !(ys.any fun y => eqFP y x) else ys.any fun y => eqFP y x)) else none
  | none => none
theorem ok_inSeq {neg : Bool} : Ok2F K TB (inSeqP neg) (rIn K neg) := by
  intro Z BH O H x y v w A B z Q gd r1 r2 hf k
  unfold inSeqP at hf
  split at hf
  · rename_i ys hy
    split at hf
    · rename_i hc
      cases hf
      rw [Bool.and_eq_true] at hc
      obtain ⟨a, vs, C, rfl, sq, t⟩ := seq_at gd.le r2 hy
      refine ⟨a, vs, rfl, sq, flat_of r1 hc.1, flats_of t hc.2, ?_⟩
      rw [inV_of r1 hc.1 t hc.2]
      exact tell gd (fun _ _ => .bl _) k
    · cases hf
  · cases hf
/-- a sign in a text -/
def inSgn (neg : Bool) : PV → PV → Option PV
  | .str x, .str z => match x.cps.toList with
    | [c] => some (.bl (if neg then !decide (c ∈ z.cps.toList) else decide (c ∈ z.cps.toList)))
    | _ => none
  | _, _ => none
theorem sgn_eq {x : Str} {c : Nat} (h : x.cps.toList = [c]) : x = ⟨#[c]⟩ := by
  obtain ⟨a⟩ := x
  congr
  exact Array.toList_inj.mp h
theorem ok_inSgn : Ok2F K TB (inSgn false) (fun x y H Q => ∃ (c : Nat) (z : Str), x = .str ⟨#[c]⟩ ∧ y = .str z ∧ Q (.bl (decide (c ∈ z.cps.toList))) H) := by
  intro Z BH O H x y v w A B z Q gd r1 r2 hf k
  unfold inSgn at hf
  split at hf
  · split at hf
    · rename_i c hc
      cases hf
      cases r1
      cases r2
      exact ⟨c, _, by rw [sgn_eq hc], rfl, tell gd (fun _ _ => .bl _) k⟩
    · cases hf
  · cases hf
theorem ok_notSgn : Ok2F K TB (inSgn true) (fun x y H Q => ∃ (c : Nat) (z : Str), x = .str ⟨#[c]⟩ ∧ y = .str z ∧ Q (.bl (!decide (c ∈ z.cps.toList))) H) := by
  intro Z BH O H x y v w A B z Q gd r1 r2 hf k
  unfold inSgn at hf
  split at hf
  · split at hf
    · rename_i c hc
      cases hf
      cases r1
      cases r2
      exact ⟨c, _, by rw [sgn_eq hc], rfl, tell gd (fun _ _ => .bl _) k⟩
    · cases hf
  · cases hf
/-! ### items -/
theorem reps_at {xs : List PV} {vs : List V} {A : List Addr} {x : PV} {j : Nat} (r : Reps K Z H xs vs A) (h : xs[j]? = some x) : ∃ v B, vs[j]? = some v ∧ Rep K Z H x v B := by
  induction xs generalizing vs A j with
  | nil => simp at h
  | cons y ys ih =>
    cases r with
    | cons r t =>
      cases j with
      | zero => simp at h; subst h; exact ⟨_, _, rfl, r⟩
      | succ j => 
        obtain ⟨v, B, e, q⟩ := ih t (by simpa using h)
        exact ⟨v, B, by simpa using e, q⟩
def itemP : PV → PV → Option PV
  | .str z, .int i => if z.length ≤ CAP then match atI z.cps.toList i with
      | some c => some (.str ⟨#[c]⟩)
      | none => none
    else none
  | x, .int i => match seqP x with
    | some xs => match atI xs i with
      | some y => if y.free then some y else none
      | none => none
    | none => none
  | _, _ => none
theorem ok_item : Ok2F K TB itemP (rIx K) := by
  intro Z BH O H x y v w A B z Q gd r1 r2 hf k
  unfold itemP at hf
  split at hf
  · rename_i s i
    split at hf
    · rename_i hl
      split at hf
      · rename_i c hc
        cases hf
        cases r1
        cases r2
        exact .inr (.inr ⟨_, _, c, rfl, rfl, by rw [cap_eq]; exact hl, hc, tell gd (fun _ _ => .str _) k⟩)
      · cases hf
    · cases hf
  · rename_i i _
    split at hf
    · rename_i xs hx
      split at hf
      · rename_i y hy
        split at hf
        · rename_i hfr
          cases hf
          cases r2
          obtain ⟨a, vs, C, rfl, sq, t⟩ := seq_at gd.le r1 hx
          unfold atI at hy
          cases hi : ixN xs.length i with
          | none => rw [hi] at hy; cases hy
          | some j =>
            rw [hi] at hy
            obtain ⟨u, E, eu, ru⟩ := reps_at t hy
            rw [ru.nil_of_free hfr] at ru
            have ea : atI vs i = some u := by unfold atI; rw [← t.length, hi]; exact eu
            rcases sq with sq | sq
            · exact .inl ⟨a, vs, i, u, rfl, rfl, sq, ea, tellF gd ru k⟩
            · exact .inr (.inl ⟨a, vs, i, u, rfl, rfl, sq, ea, tellF gd ru k⟩)
        · cases hf
      · cases hf
    · cases hf
  · cases hf
/-! ### len, isinstance -/
def lenP : PV → Option PV
  | .str z => if z.length ≤ CAP then some (.int z.length) else none
  | x => match seqP x with
    | some xs => some (.int xs.length)
    | none => none
theorem ok_len : Ok1F K TB lenP (fun x H Q => ∃ n, LenV K x H n ∧ Q (.int n) H) := by
  intro Z BH O H x v A z Q gd r1 hf k
  unfold lenP at hf
  split at hf
  · split at hf
    · rename_i hl
      cases hf
      cases r1
      exact ⟨_, ⟨by rw [cap_eq]; exact hl, rfl⟩, tell gd (fun _ _ => .int _) k⟩
    · cases hf
  · split at hf
    · rename_i xs hx
      cases hf
      obtain ⟨a, vs, C, rfl, sq, t⟩ := seq_at gd.le r1 hx
      exact ⟨xs.length, sq.elim (fun q => .inl ⟨vs, q, t.length⟩) (fun q => .inr ⟨vs, q, t.length⟩), tell gd (fun _ _ => .int _) k⟩
    · cases hf
theorem call_lenP {X : Cx} : CallR X (.builtin "len") (r1L fun x H Q => ∃ n, LenV X.K x H n ∧ Q (.int n) H) := by
  intro pins s σ H xs us Q I r h
  cases xs with
  | nil => exact h.elim
  | cons x xs =>
    cases xs with
    | nil =>
      obtain ⟨n, e, q⟩ := h
      exact call_len pins s σ H [x] us Q I r ⟨x, n, rfl, e, q⟩
    | cons y ys => exact h.elim
def tyP : PV → Option String
  | .non => some "NoneType"
  | .bl _ => some "bool"
  | .int _ => some "int"
  | .str _ => some "str"
  | .tup _ => some "tuple"
  | .lst _ _ => some "list"
  | .dct _ _ _ => some "dict"
  | .rol _ => none
  | .err _ => none
  | .dtt _ _ _ => none
theorem ty_of {x : PV} {v : V} {A : List Addr} {t : String} (lz : Le Z H) (r : Rep K Z H x v A) (h : tyP x = some t) : TyX K H v (.type t) := by
  cases r with
  | non => cases h; exact .base .non
  | bl b => cases h; exact .base (.bl b)
  | int i => cases h; exact .base (.int i)
  | str z => cases h; exact .base (.str z)
  | tup e t =>
    cases h
    rcases lz.sqT e with (e | ⟨o, e⟩) | ⟨o, its, n, hk, hc, _⟩
    · exact .base (.tup e)
    · exact .fTuple e
    · exact .kTuple hk hc
  | lstF e t => cases h; exact .base (.lst (lz _ _ e))
  | rol e t => cases h
  | lstO e t => cases h; exact .base (.lst e)
  | dctF e l t => cases h; exact .base (.dK (lz _ _ e))
  | dctO e l t => cases h; exact .base (.dK e)
  | err e => cases h
  | dttF e l t => cases h
  | dttO e l t => cases h
/-- the answers of isinstance for the types that stand here -/
def isTy (t n : String) : Bool := t == n || (t == "bool" && n == "int")
def isiP (n : String) : PV → Option PV := fun x => match tyP x with
  | some t => some (.bl (isTy t n))
  | none => none
theorem kit_bool {K : PySem.W.Frag} : ∀ t ∈ ["NoneType", "bool", "int", "str", "tuple", "list", "dict"], ∀ n ∈ ["str", "int", "bool", "tuple", "list"], PySem.W.kitOne K (.type t) (.type n) = some (isTy t n) := by
  intro t ht n hn
  simp only [List.mem_cons, List.not_mem_nil, or_false] at ht hn
  rcases ht with rfl | rfl | rfl | rfl | rfl | rfl | rfl <;> rcases hn with rfl | rfl | rfl | rfl | rfl <;> exact kit_ty (by decide +kernel)
end Ev

set_option Elab.async false
set_option linter.all false
set_option maxRecDepth 100000
set_option maxHeartbeats 2000000
/-! What is walked: sources. -/
namespace Ev
open PySem PySem.Spec PyProof.Rows L2 GxR Gx Gq
variable {K : PySem.W.Frag} {Z Z' H H' BH BH' : Hp} {TB : List Addr} {F : Fx} {env env' : Env} {σ : List (Option V)} {tm ts : Tm} {O O' : List Addr} {mg : Str → Option Value} {W : WX} {Q Q' : VK} {D : Ends} {R : It → Hp → Prop}
/-- the operands of a walk: what stands still while it goes on -/
def lookS : List Op → List (Option PV) → Env → Option (List PV)
  | [], [], _ => some []
  | .v i :: r, _ :: l, env => match env[i]? with
    | some (some (k, x)) => if x.free || k == .bor then (match lookS r l env with
      | some xs => some (x :: xs)
      | none => none) else none
    | _ => none
  | .m _ :: r, some x :: l, env => match lookS r l env with
    | some xs => some (x.frz :: xs)
    | none => none
  | _, _, _ => none
def mSrc (f : List PV → Option (List PV)) (ops : List Op) : Src := fun env => (evOps ops env).bind fun l env' => match lookS ops l env' with
  | some xs => match f xs with
    | some items => if PV.frees items then .ok items env' else .bad
    | none => .bad
  | none => .bad
theorem got_lookS {ops : List Op} {l : List (Option PV)} {vs : List V} {ts : Tm} (g : Got σ ops l vs ts) : ∀ {xs : List PV}, lookS ops l env = some xs → Sim K TB F env σ tm Z H O → (∀ p ∈ ts, Rep K Z H p.1.frz p.2 []) → RepL K Z F.BH xs vs := by
  induction g with
  | nil =>
    intro xs h s hr
    simp only [lookS] at h
    cases h
    exact .nil
  | v e t ih =>
    rename_i i v ops l vs ts
    intro xs h s hr
    simp only [lookS] at h
    split at h
    · rename_i k x e2
      split at h
      · rename_i hc
        split at h
        · rename_i ys q
          cases h
          have hi : i < σ.length := by rw [← s.len]; exact lt_of_some e2
          cases hf : x.free with
          | true =>
            obtain ⟨w, A, ev, r⟩ := s.get e2
            rw [e] at ev
            cases ev
            rw [r.nil_of_free hf] at r
            exact .cons [] (r.mono .refl fun a ha => by cases ha) (ih q s hr)
          | false =>
            rw [hf, Bool.false_or, beq_iff_eq] at hc
            subst hc
            obtain ⟨w, A, ev, r⟩ := s.sl.getB (in_app (r := tmE tm) e2)
            have ev' := of_app hi ev
            rw [e] at ev'
            cases ev'
            exact .cons A r (ih q s hr)
        · cases h
      · cases h
    · cases h
  | m t ih =>
    rename_i m x v ops l vs ts
    intro xs h s hr
    simp only [lookS] at h
    split at h
    · rename_i ys q
      cases h
      exact .cons [] ((hr (x, v) (List.mem_cons_self ..)).mono .refl fun a ha => by cases ha) (ih q s fun p hp => hr p (List.mem_cons_of_mem _ hp))
    · cases h
def OkI (K : PySem.W.Frag) (TB : List Addr) (f : List PV → Option (List PV)) (r : List V → Hp → (It → Hp → Prop) → Prop) : Prop :=
  ∀ (Z BH : Hp) (O : List Addr) (H : Hp) (xs : List PV) (vs : List V) (items : List PV) (R : It → Hp → Prop), Good TB Z BH O H → RepL K Z BH xs vs → f xs = some items → PV.frees items = true → (∀ J H' Z', New TB Z H Z' [] H' → JOk K TB BH J Z' items → R J H') → r vs H R
theorem opsI {f : List PV → Option (List PV)} {r : List V → Hp → (It → Hp → Prop) → Prop} {ops : List Op} (ok : OkI K TB f r) (h : tI K TB mg W (mSrc f ops) σ H R) : tOpds K TB mg W ops σ H fun vs H1 => r vs H1 R := by
  obtain ⟨F, env, tm, Z, O, s, p⟩ := h
  refine evOps_ok ops s ?_
  unfold mSrc at p
  cases q : evOps ops env with
  | ok l env' =>
    rw [q] at p
    intro vs ts H' Z' O' st sm g
    simp only [Out.bind] at p
    cases q2 : lookS ops l env' with
    | none => rw [q2] at p; exact p.elim
    | some xs =>
      rw [q2] at p
      simp only at p
      cases q3 : f xs with
      | none => rw [q3] at p; exact p.elim
      | some items =>
        rw [q3] at p
        simp only at p
        split at p
        · rename_i hfr
          obtain ⟨Z2, O2, st2, sm2, hr⟩ := sm.frzTm
          refine ok Z2 F.BH O2 H' xs vs items R sm2.good (got_lookS g q2 sm2 hr) q3 hfr fun J H3 Z3 n jok => ?_
          have st3 := n.step (O := O2)
          rw [List.append_nil] at st3
          exact p J H3 Z3 O2 (st.trans (st2.trans st3)) (n.sim0 sm2) jok
        · exact p.elim
  | exc c xs env' => rw [q] at p; exact p
  | bad => rw [q] at p; exact p
/-- two kinds of things to be walked -/
def orI (f g : List PV → Option (List PV)) : List PV → Option (List PV) := fun xs => match f xs with
  | some y => some y
  | none => g xs
theorem tI_or {f g : List PV → Option (List PV)} {ops : List Op} (h : tI K TB mg W (mSrc (orI f g) ops) σ H R) : tI K TB mg W (mSrc f ops) σ H R ∨ tI K TB mg W (mSrc g ops) σ H R := by
  obtain ⟨F, env, tm, Z, O, s, p⟩ := h
  have key : mSrc (orI f g) ops env = mSrc f ops env ∨ mSrc (orI f g) ops env = mSrc g ops env := by
    unfold mSrc
    cases evOps ops env with
    | exc c xs e => exact .inl rfl
    | bad => exact .inl rfl
    | ok l e =>
      simp only [Out.bind]
      cases lookS ops l e with
      | none => exact .inl rfl
      | some xs =>
        simp only [orI]
        cases f xs with
        | some y => exact .inl rfl
        | none => exact .inr rfl
  rcases key with k | k
  · exact .inl ⟨F, env, tm, Z, O, s, by rw [← k]; exact p⟩
  · exact .inr ⟨F, env, tm, Z, O, s, by rw [← k]; exact p⟩
theorem pi_or {X : Cx} {tg iter : Expr} {w1 w2 : TI} (h1 : PI X tg iter w1) (h2 : PI X tg iter w2) : PI X tg iter (fun σ H R => w1 σ H R ∨ w2 σ H R) :=
  ⟨fun pins s σ H R I h => h.elim (h1.run pins s σ H R I) (h2.run pins s σ H R I)⟩
theorem convI {X : Cx} {tg iter : Expr} {w w' : TI} (h : PI X tg iter w) (k : ∀ σ H R, w' σ H R → w σ H R) : PI X tg iter w' := ⟨fun pins s σ H R I q => h.run pins s σ H R I (k σ H R q)⟩
/-! ### lists, tuples, texts -/
def listIt : List PV → Option (List PV)
  | [.lst _ xs] => some xs
  | [.rol xs] => some xs
  | _ => none
def tupIt : List PV → Option (List PV)
  | [.tup xs] => some xs
  | _ => none
def strIt : List PV → Option (List PV)
  | [.str z] => some (z.cps.toList.map fun c => .str ⟨#[c]⟩)
  | _ => none
def seqIt : List PV → Option (List PV) := orI listIt (orI tupIt strIt)
theorem listS_at {x : PV} {xs : List PV} {v : V} {A : List Addr} (r : Rep K Z BH x v A) (h : listIt [x] = some xs) : ∃ a vs B, v = .ref a ∧ (∀ Z' H', Le Z Z' → Le Z' H' → Le BH H' → SqL K H' a vs) ∧ Reps K Z BH xs vs B := by
  cases r with
  | lstF e t => cases h; exact ⟨_, _, _, rfl, fun Z' H' h1 h2 h3 => SqL.of (h2 _ _ (h1 _ _ e)), t⟩
  | lstO e t => cases h; exact ⟨_, _, _, rfl, fun Z' H' h1 h2 h3 => SqL.of (h3 _ _ e), t⟩
  | rol e t => cases h; exact ⟨_, _, _, rfl, fun Z' H' h1 h2 h3 => h2.sqL (h1.sqL e), t⟩
  | _ => cases h
theorem frees_at {xs : List PV} {i : Nat} {x : PV} (h : PV.frees xs = true) (e : xs[i]? = some x) : x.free = true := by
  induction xs generalizing i with
  | nil => simp at e
  | cons y ys ih =>
    simp only [PV.frees, Bool.and_eq_true] at h
    cases i with
    | zero => simp at e; subst e; exact h.1
    | succ i => exact ih h.2 (by simpa using e)
theorem rep_at {xs : List PV} {vs : List V} {B : List Addr} {i : Nat} {x : PV} (t : Reps K Z BH xs vs B) (h : PV.frees xs = true) (e : xs[i]? = some x) (z : Le Z Z') : ∃ u, vs[i]? = some u ∧ Rep K Z' H' x u [] := by
  obtain ⟨u, C, eu, r⟩ := reps_at t e
  rw [r.nil_of_free (frees_at h e)] at r
  exact ⟨u, eu, r.mono z fun a ha => by cases ha⟩
theorem jok_list {a : Addr} {xs : List PV} {vs : List V} {B : List Addr} (sq : ∀ Z' H', Le Z Z' → Le Z' H' → Le BH H' → SqL K H' a vs) (t : Reps K Z BH xs vs B) (hf : PV.frees xs = true) : JOk K TB BH (Itl K a) Z xs := by
  intro Z' O' H' z g
  have s := sq Z' H' z g.le g.lb
  refine ⟨⟨vs, s, Nat.le_of_eq t.length.symm⟩, fun i x e => ?_⟩
  obtain ⟨u, eu, r⟩ := rep_at (H' := H') t hf e z
  refine ⟨⟨vs, u, s, eu⟩, fun v H2 hy => ?_⟩
  obtain ⟨rfl, hv⟩ := hy
  have ev := hv vs s
  rw [eu] at ev
  cases ev
  exact ⟨Z', New.refl g, r⟩
theorem ok_listIt : OkI K TB listIt (fun vs H R => match vs with | [v] => ∃ a, v = .ref a ∧ (∃ xs, SqL K H a xs) ∧ R (Itl K a) H | _ => False) := by
  intro Z BH O H xs vs items R g rs hf hfr k
  cases rs with
  | nil => cases hf
  | cons A r1 t =>
    cases t with
    | nil =>
      obtain ⟨a, ws, B, rfl, sq, t⟩ := listS_at r1 hf
      exact ⟨a, rfl, ⟨ws, sq Z H .refl g.le g.lb⟩, k _ H Z (New.refl g) (jok_list sq t hfr)⟩
    | cons B r2 t => simp [listIt] at hf
theorem jok_tup {a : Addr} {xs : List PV} {vs : List V} {B : List Addr} (sq : SqT K Z a vs) (t : Reps K Z BH xs vs B) (hf : PV.frees xs = true) : JOk K TB BH (Itt K a) Z xs := by
  intro Z' O' H' z g
  have s := g.le.sqT (z.sqT sq)
  refine ⟨⟨vs, s, Nat.le_of_eq t.length.symm⟩, fun i x e => ?_⟩
  obtain ⟨u, eu, r⟩ := rep_at (H' := H') t hf e z
  refine ⟨⟨vs, u, s, eu⟩, fun v H2 hy => ?_⟩
  obtain ⟨rfl, hv⟩ := hy
  have ev := hv vs s
  rw [eu] at ev
  cases ev
  exact ⟨Z', New.refl g, r⟩
theorem ok_tupIt : OkI K TB tupIt (fun vs H R => match vs with | [v] => ∃ a, v = .ref a ∧ (∃ xs, SqT K H a xs) ∧ R (Itt K a) H | _ => False) := by
  intro Z BH O H xs vs items R g rs hf hfr k
  cases rs with
  | nil => cases hf
  | cons A r1 t =>
    cases t with
    | nil =>
      cases r1 with
      | tup e t =>
        simp only [tupIt] at hf
        cases hf
        exact ⟨_, rfl, ⟨_, g.le.sqT e⟩, k _ H Z (New.refl g) (jok_tup e t hfr)⟩
      | _ => cases hf
    | cons B r2 t => simp [tupIt] at hf
theorem jok_str {z : Str} : JOk K TB BH (Its z) Z (z.cps.toList.map fun c => .str ⟨#[c]⟩) := by
  intro Z' O' H' zl g
  have el : z.cps.toList.length = z.cps.size := Array.length_toList
  refine ⟨show z.cps.size ≤ _ by rw [List.length_map, el] <;> exact Nat.le_refl _, fun i x e => ?_⟩
  rw [List.getElem?_map] at e
  cases q : z.cps.toList[i]? with
  | none => rw [q] at e; cases e
  | some c =>
    rw [q] at e
    cases e
    refine ⟨show i < z.cps.size by rw [← el]; exact lt_of_some q, fun v H2 hy => ?_⟩
    obtain ⟨rfl, c2, ec, rfl⟩ := hy
    rw [← Array.getElem?_toList, q] at ec
    cases ec
    exact ⟨Z', New.refl g, .str _⟩
theorem ok_strIt : OkI K TB strIt (fun vs H R => match vs with | [v] => ∃ x, v = .str x ∧ R (Its x) H | _ => False) := by
  intro Z BH O H xs vs items R g rs hf hfr k
  cases rs with
  | nil => cases hf
  | cons A r1 t =>
    cases t with
    | nil =>
      cases r1 with
      | str z =>
        simp only [strIt] at hf
        cases hf
        exact ⟨z, rfl, k _ H Z (New.refl g) jok_str⟩
      | _ => cases hf
    | cons B r2 t => simp [strIt] at hf
section
variable {X : Cx} {tg : Expr} {e : Expr} {o : Op}
theorem si_seq (hK : X.K = K) (h : PE X e (tOpd K TB mg W o)) : PI X tg e (tI K TB mg W (mSrc seqIt [o])) := by
  subst hK
  exact convI (pi_or (pi_list h) (pi_or (pi_tup h) (pi_str h))) fun σ H R q => (tI_or q).imp (opsI ok_listIt) fun q => (tI_or q).imp (opsI ok_tupIt) (opsI ok_strIt)
/-! ### ranges -/
def rng (lo : Int) (n : Nat) : List PV := (List.range n).map fun k => .int (lo + (k : Nat))
theorem jok_rng {lo : Int} {n : Nat} : JOk K TB BH (Itr lo n) Z (rng lo n) := by
  intro Z' O' H' zl g
  unfold rng
  refine ⟨show n ≤ _ by rw [List.length_map, List.length_range] <;> exact Nat.le_refl _, fun i x e => ?_⟩
  rw [List.getElem?_map] at e
  cases q : (List.range n)[i]? with
  | none => rw [q] at e; cases e
  | some c =>
    rw [q] at e
    cases e
    have lt := lt_of_some q
    rw [List.length_range] at lt
    rw [List.getElem?_range lt] at q
    cases q
    refine ⟨lt, fun v H2 hy => ?_⟩
    obtain ⟨rfl, rfl⟩ := hy
    exact ⟨Z', New.refl g, .int _⟩
def rngIt1 : List PV → Option (List PV)
  | [.int j] => if -(2 ^ 62) ≤ j ∧ j < 2 ^ 62 then some (rng 0 j.toNat) else none
  | _ => none
def rngIt2 : List PV → Option (List PV)
  | [.int i, .int j] => if -(2 ^ 62) ≤ i ∧ i < 2 ^ 62 ∧ -(2 ^ 62) ≤ j ∧ j < 2 ^ 62 then some (rng i (j - i).toNat) else none
  | _ => none
theorem ok_rngIt1 : OkI K TB rngIt1 (fun vs H R => ∃ j : Int, vs = [.int j] ∧ -(2 ^ 62) ≤ j ∧ j < 2 ^ 62 ∧ R (Itr 0 j.toNat) H) := by
  intro Z BH O H xs vs items R g rs hf hfr k
  cases rs with
  | nil => cases hf
  | cons A r1 t =>
    cases t with
    | nil =>
      cases r1 with
      | int j =>
        simp only [rngIt1] at hf
        split at hf
        · rename_i hc
          cases hf
          exact ⟨j, rfl, hc.1, hc.2, k _ H Z (New.refl g) jok_rng⟩
        · cases hf
      | _ => cases hf
    | cons B r2 t => simp [rngIt1] at hf
theorem ok_rngIt2 : OkI K TB rngIt2 (fun vs H R => ∃ i j : Int, vs = [.int i, .int j] ∧ (-(2 ^ 62) ≤ i ∧ i < 2 ^ 62 ∧ -(2 ^ 62) ≤ j ∧ j < 2 ^ 62) ∧ R (Itr i (j - i).toNat) H) := by
  intro Z BH O H xs vs items R g rs hf hfr k
  cases rs with
  | nil => cases hf
  | cons A r1 t =>
    cases t with
    | nil => cases r1 <;> simp [rngIt2] at hf
    | cons B r2 t =>
      cases t with
      | nil =>
        cases r1 with
        | int i =>
          cases r2 with
          | int j =>
            simp only [rngIt2] at hf
            split at hf
            · rename_i hc
              cases hf
              exact ⟨i, j, rfl, hc, k _ H Z (New.refl g) jok_rng⟩
            · cases hf
          | _ => cases hf
        | _ => cases hf
      | cons C r3 t => cases r1 <;> cases r2 <;> simp [rngIt2] at hf
theorem si_range1 {a : Expr} {p pos : Pos} {ops : List Op} (hg : Gl X "range") (hm : X.mg "range" = none) (ha : PA X [a] (tOpds K TB mg W ops)) (hs : starEach [a] X.env = [(false, eval a X.env)] := by rfl) :
    PI X tg (.Call (.Name "range" p) [a] [] pos) (tI K TB mg W (mSrc rngIt1 ops)) := convI (pi_range1 hg hm ha hs) fun σ H R q => opsI ok_rngIt1 q
theorem si_range2 {a b : Expr} {p pos : Pos} {ops : List Op} (hg : Gl X "range") (hm : X.mg "range" = none) (ha : PA X [a, b] (tOpds K TB mg W ops)) (hs : starEach [a, b] X.env = [(false, eval a X.env), (false, eval b X.env)] := by rfl) (hs2 : starEach [b] X.env = [(false, eval b X.env)] := by rfl) :
    PI X tg (.Call (.Name "range" p) [a, b] [] pos) (tI K TB mg W (mSrc rngIt2 ops)) := convI (pi_range2 hg hm ha hs hs2) fun σ H R q => opsI ok_rngIt2 q
/-! ### pairs with their numbers, pairs of two -/
def numb : Nat → List PV → List PV
  | _, [] => []
  | k, x :: xs => .tup [.int (k : Nat), x] :: numb (k + 1) xs
theorem numb_len : ∀ (xs : List PV) (k : Nat), (numb k xs).length = xs.length
  | [], _ => rfl
  | _ :: xs, k => by simp [numb, numb_len xs]
theorem numb_at : ∀ (xs : List PV) (k i : Nat), (numb k xs)[i]? = (xs[i]?).map fun x => .tup [.int ((k + i : Nat) : Int), x]
  | [], _, _ => by simp [numb]
  | x :: xs, k, 0 => by simp [numb]
  | x :: xs, k, i + 1 => by
    simp only [numb, List.getElem?_cons_succ]
    rw [numb_at xs (k + 1) i, show k + 1 + i = k + (i + 1) by omega]
theorem numb_frees : ∀ (xs : List PV) (k : Nat), PV.frees (numb k xs) = PV.frees xs
  | [], _ => rfl
  | x :: xs, k => by simp [numb, PV.frees, PV.free, numb_frees xs]
def pairs : List PV → List PV → List PV
  | x :: xs, y :: ys => .tup [x, y] :: pairs xs ys
  | _, _ => []
theorem pairs_len : ∀ (xs ys : List PV), (pairs xs ys).length = min xs.length ys.length
  | [], _ => by simp [pairs]
  | _ :: _, [] => by simp [pairs]
  | x :: xs, y :: ys => by
    simp [pairs, pairs_len xs ys]
theorem pairs_at : ∀ (xs ys : List PV) (i : Nat) (p : PV), (pairs xs ys)[i]? = some p → ∃ x y, xs[i]? = some x ∧ ys[i]? = some y ∧ p = .tup [x, y]
  | [], _, i, p, h => by simp [pairs] at h
  | _ :: _, [], i, p, h => by simp [pairs] at h
  | x :: xs, y :: ys, 0, p, h => by
    simp [pairs] at h
    exact ⟨x, y, rfl, rfl, h.symm⟩
  | x :: xs, y :: ys, i + 1, p, h => by
    simp only [pairs, List.getElem?_cons_succ] at h
    obtain ⟨a, b, h1, h2, h3⟩ := pairs_at xs ys i p h
    exact ⟨a, b, by simpa using h1, by simpa using h2, h3⟩
theorem rep_pair {x y : PV} {u w : V} {T : Addr} (g : Good TB Z BH O H) (hT : H T = none) (r1 : Rep K Z H x u []) (r2 : Rep K Z H y w []) : ∃ Z', New TB Z H Z' [] (upd H T (.tup [u, w])) ∧ Rep K Z' (upd H T (.tup [u, w])) (.tup [x, y]) (.ref T) [] := by
  have n := New.tup (TB := TB) (o := .tup [u, w]) g hT
  refine ⟨_, n, .tup (SqT.of upd_same) ?_⟩
  have q : Reps K (upd Z T (.tup [u, w])) (upd H T (.tup [u, w])) [x, y] [u, w] ([] ++ ([] ++ [])) := .cons (r1.mono n.z fun a ha => by cases ha) (.cons (r2.mono n.z fun a ha => by cases ha) .nil)
  exact q
def enumIt (f : List PV → Option (List PV)) : List PV → Option (List PV) := fun xs => match f xs with
  | some ys => some (numb 0 ys)
  | none => none
theorem ok_enumL : OkI K TB (enumIt listIt) (fun vs H R => ∃ a xs, vs = [.ref a] ∧ SqL K H a xs ∧ R (Ite K a) H) := by
  intro Z BH O H xs vs items R g rs hf hfr k
  unfold enumIt at hf
  split at hf
  · rename_i ys hy
    cases hf
    rw [numb_frees] at hfr
    cases rs with
    | nil => cases hy
    | cons A r1 t =>
      cases t with
      | nil =>
        obtain ⟨a, ws, B, rfl, sq, t⟩ := listS_at r1 hy
        refine ⟨a, ws, rfl, sq Z H .refl g.le g.lb, k _ H Z (New.refl g) ?_⟩
        intro Z' O' H' z g'
        have s := sq Z' H' z g'.le g'.lb
        have l1 := t.length
        have l2 := numb_len ys 0
        refine ⟨⟨ws, s, by omega⟩, fun i p e => ?_⟩
        rw [numb_at, Nat.zero_add] at e
        cases q : ys[i]? with
        | none => rw [q] at e; cases e
        | some x =>
          rw [q] at e
          cases e
          obtain ⟨u, eu, r⟩ := rep_at (H' := H') t hfr q z
          refine ⟨⟨ws, u, s, eu⟩, fun v H2 hy => ?_⟩
          obtain ⟨T, w, rfl, hT, rfl, hw⟩ := hy
          have ew := hw ws s
          rw [eu] at ew
          cases ew
          exact rep_pair g' hT (.int _) r
      | cons B r2 t => simp [listIt] at hy
  · cases hf
theorem ok_enumT : OkI K TB (enumIt tupIt) (fun vs H R => ∃ a xs, vs = [.ref a] ∧ SqT K H a xs ∧ R (Gr2.Iett K a) H) := by
  intro Z BH O H xs vs items R g rs hf hfr k
  unfold enumIt at hf
  split at hf
  · rename_i ys hy
    cases hf
    rw [numb_frees] at hfr
    cases rs with
    | nil => cases hy
    | cons A r1 t =>
      cases t with
      | nil =>
        cases r1 with
        | tup e t =>
          simp only [tupIt] at hy
          cases hy
          rename_i a ws
          refine ⟨a, ws, rfl, g.le.sqT e, k _ H Z (New.refl g) ?_⟩
          intro Z' O' H' z g'
          have s := g'.le.sqT (z.sqT e)
          have l1 := t.length
          have l2 := numb_len ys 0
          refine ⟨⟨ws, s, by omega⟩, fun i p e => ?_⟩
          rw [numb_at, Nat.zero_add] at e
          cases q : (ys : List PV)[i]? with
          | none => rw [q] at e; cases e
          | some x =>
            rw [q] at e
            cases e
            obtain ⟨u, eu, r⟩ := rep_at (H' := H') t hfr q z
            refine ⟨⟨ws, u, s, eu⟩, fun v H2 hy => ?_⟩
            obtain ⟨T, w, rfl, hT, rfl, hw⟩ := hy
            have ew := hw ws s
            rw [eu] at ew
            cases ew
            exact rep_pair g' hT (.int _) r
        | _ => cases hy
      | cons B r2 t => simp [tupIt] at hy
  · cases hf
theorem si_enum {p pos tpos : Pos} {elts : List Expr} {kk : Nat} (hK : X.K = K) (hg : Gl X "enumerate") (hm : X.mg "enumerate" = none) (ha : PA X [e] (tOpds K TB mg W [o])) (hs : starEach [e] X.env = [(false, eval e X.env)] := by rfl) :
    PI X (.Tuple elts kk tpos) (.Call (.Name "enumerate" p) [e] [] pos) (tI K TB mg W (mSrc (orI (enumIt listIt) (enumIt tupIt)) [o])) := by
  subst hK
  exact convI (pi_or (pi_enum hg hm ha hs) (Gr2.pi_enumT hg hm ha hs)) fun σ H R q => (tI_or q).imp (opsI ok_enumL) (opsI ok_enumT)
def zipIt (f : List PV → Option (List PV)) : List PV → Option (List PV)
  | [x, y] => match f [x], f [y] with
    | some xs, some ys => some (pairs xs ys)
    | _, _ => none
  | _ => none
theorem pairs_frees : ∀ {xs ys : List PV} {i : Nat} {x y : PV}, PV.frees (pairs xs ys) = true → xs[i]? = some x → ys[i]? = some y → x.free = true ∧ y.free = true
  | [], _, i, x, y, h, e1, e2 => by simp at e1
  | _ :: _, [], i, x, y, h, e1, e2 => by simp at e2
  | a :: xs, b :: ys, 0, x, y, h, e1, e2 => by
    simp at e1 e2
    subst e1 e2
    simp only [pairs, PV.frees, PV.free, Bool.and_eq_true] at h
    exact ⟨h.1.1, h.1.2.1⟩
  | a :: xs, b :: ys, i + 1, x, y, h, e1, e2 => by
    simp only [pairs, PV.frees, Bool.and_eq_true] at h
    exact pairs_frees h.2 (by simpa using e1) (by simpa using e2)
theorem ok_zipA : OkI K TB (orI (zipIt listIt) (zipIt tupIt)) (fun vs H R => ∃ a b xs ys, vs = [.ref a, .ref b] ∧ ((SqL K H a xs ∧ SqL K H b ys ∧ R (Itz K a b) H) ∨ (SqT K H a xs ∧ SqT K H b ys ∧ R (RZ.ItzT K a b) H))) := by
  intro Z BH O H xs vs items R g rs hf hfr k
  unfold orI at hf
  split at hf
  · rename_i its hz
    cases hf
    unfold zipIt at hz
    split at hz
    · rename_i x y
      split at hz
      · rename_i xs ys h1 h2
        cases hz
        cases rs with
        | cons A r1 t =>
          cases t with
          | cons B r2 t =>
            cases t
            obtain ⟨a, ws, A1, rfl, sq1, t1⟩ := listS_at r1 h1
            obtain ⟨b, us, B1, rfl, sq2, t2⟩ := listS_at r2 h2
            refine ⟨a, b, ws, us, rfl, .inl ⟨sq1 Z H .refl g.le g.lb, sq2 Z H .refl g.le g.lb, k _ H Z (New.refl g) ?_⟩⟩
            intro Z' O' H' z g'
            have s1 := sq1 Z' H' z g'.le g'.lb
            have s2 := sq2 Z' H' z g'.le g'.lb
            refine ⟨⟨ws, us, s1, s2, ?_⟩, fun i p e => ?_⟩
            · rw [pairs_len, ← t1.length, ← t2.length]
              omega
            · obtain ⟨c, d, e1, e2, rfl⟩ := pairs_at _ _ _ _ e
              obtain ⟨f1, f2⟩ := pairs_frees hfr e1 e2
              obtain ⟨u1, C1, eu1, q1⟩ := reps_at t1 e1
              obtain ⟨u2, C2, eu2, q2⟩ := reps_at t2 e2
              rw [q1.nil_of_free f1] at q1
              rw [q2.nil_of_free f2] at q2
              refine ⟨⟨ws, us, u1, u2, s1, s2, eu1, eu2⟩, fun v H2 hy => ?_⟩
              obtain ⟨T, w1, w2, rfl, hT, rfl, hw1, hw2⟩ := hy
              have ew1 := hw1 ws s1
              have ew2 := hw2 us s2
              rw [eu1] at ew1
              rw [eu2] at ew2
              cases ew1
              cases ew2
              exact rep_pair g' hT (q1.mono z fun a ha => by cases ha) (q2.mono z fun a ha => by cases ha)
      · cases hz
    · cases hz
  · rename_i hz0
    unfold zipIt at hf
    split at hf
    · rename_i x y
      split at hf
      · rename_i xs ys h1 h2
        cases hf
        cases rs with
        | cons A r1 t =>
          cases t with
          | cons B r2 t =>
            cases t
            cases r1 with
            | tup sq1 t1 =>
              cases r2 with
              | tup sq2 t2 =>
                simp only [tupIt] at h1 h2
                cases h1
                cases h2
                rename_i a ws b us
                refine ⟨a, b, ws, us, rfl, .inr ⟨g.le.sqT sq1, g.le.sqT sq2, k _ H Z (New.refl g) ?_⟩⟩
                intro Z' O' H' z g'
                have s1 := g'.le.sqT (z.sqT sq1)
                have s2 := g'.le.sqT (z.sqT sq2)
                refine ⟨⟨ws, us, s1, s2, ?_⟩, fun i p e => ?_⟩
                · rw [pairs_len, ← t1.length, ← t2.length]
                  omega
                · obtain ⟨c, d, e1, e2, rfl⟩ := pairs_at _ _ _ _ e
                  obtain ⟨f1, f2⟩ := pairs_frees hfr e1 e2
                  obtain ⟨u1, C1, eu1, q1⟩ := reps_at t1 e1
                  obtain ⟨u2, C2, eu2, q2⟩ := reps_at t2 e2
                  rw [q1.nil_of_free f1] at q1
                  rw [q2.nil_of_free f2] at q2
                  refine ⟨⟨ws, us, u1, u2, s1, s2, eu1, eu2⟩, fun v H2 hy => ?_⟩
                  obtain ⟨T, w1, w2, rfl, hT, rfl, hw1, hw2⟩ := hy
                  have ew1 := hw1 ws s1
                  have ew2 := hw2 us s2
                  rw [eu1] at ew1
                  rw [eu2] at ew2
                  cases ew1
                  cases ew2
                  exact rep_pair g' hT (q1.mono z fun a ha => by cases ha) (q2.mono z fun a ha => by cases ha)
              | _ => cases h2
            | _ => cases h1
      · cases hf
    · cases hf
theorem si_zip {e2 : Expr} {o2 : Op} {p pos tpos : Pos} {elts : List Expr} {kk : Nat} (hK : X.K = K) (hg : Gl X "zip") (hm : X.mg "zip" = none) (ha : PA X [e, e2] (tOpds K TB mg W [o, o2]))
    (hs : starEach [e, e2] X.env = (false, eval e X.env) :: starEach [e2] X.env := by rfl) (hpl : (backTo pos (starEach [e2] X.env)).any (·.1) = false := by rfl) :
    PI X (.Tuple elts kk tpos) (.Call (.Name "zip" p) [e, e2] [] pos) (tI K TB mg W (mSrc (orI (zipIt listIt) (zipIt tupIt)) [o, o2])) := by
  subst hK
  exact convI (RZ.pi_zipA hg hm ha hs hpl) fun σ H R q => opsI ok_zipA q
def revIt : List PV → Option (List PV) := fun xs => match listIt xs with
  | some ys => some ys.reverse
  | none => none
theorem ok_revIt : OkI K TB revIt (fun vs H R => ∃ (a : Addr) (xs : List V), vs = [.ref a] ∧ SqL K H a xs ∧ R (Itv K a xs.length) H) := by
  intro Z BH O H xs vs items R g rs hf hfr k
  unfold revIt at hf
  split at hf
  · rename_i ys hy
    cases hf
    cases rs with
    | nil => cases hy
    | cons A r1 t =>
      cases t with
      | nil =>
        obtain ⟨a, ws, B, rfl, sq, t⟩ := listS_at r1 hy
        refine ⟨a, ws, rfl, sq Z H .refl g.le g.lb, k _ H Z (New.refl g) ?_⟩
        intro Z' O' H' z g'
        have s := sq Z' H' z g'.le g'.lb
        refine ⟨show ws.length ≤ _ by rw [List.length_reverse, t.length] <;> exact Nat.le_refl _, fun i x e => ?_⟩
        have lt := lt_of_some e
        rw [List.length_reverse] at lt
        have e2 : ys[ws.length - 1 - i]? = some x := by
          rw [List.getElem?_reverse lt] at e
          rw [← t.length]
          exact e
        have fx : x.free = true := frees_at hfr e
        obtain ⟨u, C, eu, r⟩ := reps_at t e2
        rw [r.nil_of_free fx] at r
        refine ⟨⟨by rw [← t.length]; exact lt, ws, u, s, eu⟩, fun v H2 hy => ?_⟩
        obtain ⟨rfl, hv⟩ := hy
        have ev := hv ws s
        rw [eu] at ev
        cases ev
        exact ⟨Z', New.refl g', r.mono z fun a ha => by cases ha⟩
      | cons B r2 t => simp [listIt] at hy
  · cases hf
theorem si_rev {p pos : Pos} (hK : X.K = K) (hg : Gl X "reversed") (hm : X.mg "reversed" = none) (ha : PA X [e] (tOpds K TB mg W [o])) (hs : starEach [e] X.env = [(false, eval e X.env)] := by rfl) :
    PI X tg (.Call (.Name "reversed" p) [e] [] pos) (tI K TB mg W (mSrc revIt [o])) := by
  subst hK
  exact convI (pi_reversed hg hm ha hs) fun σ H R q => opsI ok_revIt q
end
end Ev

set_option Elab.async false
set_option linter.all false
set_option maxRecDepth 100000
set_option maxHeartbeats 2000000
/-! Slices, stores, comprehensions, refusals, built-ins. -/
namespace Ev
open PySem PySem.Spec PyProof.Rows L2 GxR Gx Gq
variable {K : PySem.W.Frag} {Z Z' H H' BH BH' : Hp} {TB : List Addr} {F : Fx} {env env' : Env} {σ : List (Option V)} {tm ts : Tm} {O O' : List Addr} {mg : Str → Option Value} {W : WX} {Q Q' : VK} {D : Ends} {R : It → Hp → Prop}
/-- frozen at once -/
def eFrz (m : M PV) : M PV := fun env => match m env with
  | .ok x e => .ok x.frz e
  | .exc c xs e => .exc c xs e
  | .bad => .bad
theorem tE_frz {m : M PV} (h : tE K TB mg W (eFrz m) σ H Q) : tE K TB mg W m σ H Q := by
  obtain ⟨F, env, tm, Z, O, s, p⟩ := h
  refine ⟨F, env, tm, Z, O, s, ?_⟩
  unfold eFrz at p
  cases q : m env with
  | ok x e =>
    rw [q] at p
    intro v H' Z' O' st sm
    obtain ⟨Z2, O2, st2, sm2, hr⟩ := sm.frzTm
    exact p v H' Z2 O2 (st.trans st2) (sm2.push (hr (x, v) (List.mem_singleton.mpr rfl)))
  | exc c xs e => rw [q] at p; exact p
  | bad => rw [q] at p; exact p
theorem se_frz {X : Cx} {e : Expr} {m : M PV} (h : PE X e (tE K TB mg W m)) : PE X e (tE K TB mg W (eFrz m)) := conv h fun _ _ _ q => tE_frz q
/-- a whole number is wanted -/
def eInt (m : M PV) : M PV := fun env => match m env with
  | .ok (.int i) e => .ok (.int i) e
  | .ok _ _ => .bad
  | .exc c xs e => .exc c xs e
  | .bad => .bad
theorem int_of {v : V} {i : Int} (s : Sim K TB F env σ (tm ++ [(.int i, v)]) Z H O) : v = .int i := by
  obtain ⟨P1, P2, eP, t1, t2⟩ := s.splitTm
  generalize hS : tmE [(PV.int i, v)] = E at t2
  generalize hV : tmV [(PV.int i, v)] = EV at t2
  cases t2 with
  | nil => cases hS
  | non v t => cases hS
  | bor h t => cases hS
  | own hk r t =>
    cases hS
    cases hV
    cases r
    rfl
theorem tE_int {m : M PV} {G : Int → Hp → Prop} (h : tE K TB mg W (eInt m) σ H Q) (k : ∀ i H', Q (.int i) H' → G i H') : tE K TB mg W m σ H fun v H' => ∃ i, v = .int i ∧ G i H' := by
  obtain ⟨F, env, tm, Z, O, s, p⟩ := h
  refine ⟨F, env, tm, Z, O, s, ?_⟩
  unfold eInt at p
  cases q : m env with
  | ok x e =>
    rw [q] at p
    cases x with
    | int i =>
      intro v H' Z' O' st sm
      have ev := int_of (i := i) sm
      subst ev
      exact ⟨i, rfl, k i H' (p _ H' Z' O' st sm)⟩
    | _ => exact p.elim
  | exc c xs e => rw [q] at p; exact p
  | bad => rw [q] at p; exact p
/-! ### slices -/
def cutP (xs : List PV) (lo hi : Option Int) : List PV := (xs.drop (HT.sIx xs.length 0 lo)).take (HT.sIx xs.length xs.length hi - HT.sIx xs.length 0 lo)
theorem reps_drop {xs : List PV} {vs : List V} {A : List Addr} (r : Reps K Z H xs vs A) (hf : A = []) (n : Nat) : Reps K Z H (xs.drop n) (vs.drop n) [] := by
  induction n generalizing xs vs A with
  | zero => subst hf; exact r
  | succ n ih =>
    cases r with
    | nil => exact .nil
    | cons r t => exact ih t (List.append_eq_nil_iff.mp hf).2
theorem reps_take {xs : List PV} {vs : List V} {A : List Addr} (r : Reps K Z H xs vs A) (hf : A = []) (n : Nat) : Reps K Z H (xs.take n) (vs.take n) [] := by
  induction n generalizing xs vs A with
  | zero => exact .nil
  | succ n ih =>
    cases r with
    | nil => exact .nil
    | cons r t =>
      obtain ⟨e1, e2⟩ := List.append_eq_nil_iff.mp hf
      subst e1
      exact Reps.cons (A := []) (B := []) r (ih t e2)
theorem reps_cut {xs : List PV} {vs : List V} {A : List Addr} (r : Reps K Z H xs vs A) (f : PV.frees xs = true) (lo hi : Option Int) : Reps K Z H (cutP xs lo hi) (cutV vs lo hi) [] := by
  unfold cutP cutV
  rw [r.length]
  exact reps_take (reps_drop r (r.nil_of_free f) _) rfl _
def optI : PV → Option (Option Int)
  | .int i => some (some i)
  | _ => none
def slP (lo hi : Option Int) : PV → Option PV
  | .str z => if z.length ≤ CAP then some (.str (cutS z lo hi)) else none
  | .tup xs => if PV.frees xs then some (.tup (cutP xs lo hi)) else none
  | .lst _ xs => if PV.frees xs then some (.lst true (cutP xs lo hi)) else none
  | .rol xs => if PV.frees xs then some (.lst true (cutP xs lo hi)) else none
  | _ => none
def rSlP (K : PySem.W.Frag) : V → Option Int → Option Int → Hp → VK → Prop := fun x lo hi H Q => rSlL K x lo hi H Q ∨ (rSlA K x lo hi H Q ∨ rSlS x lo hi H Q)
theorem sl_P {X : Cx} : SlR X (rSlP X.K) := sl_list.or (sl_tupA.or sl_str)
theorem ok_sl {lo hi : Option Int} : Ok1F K TB (slP lo hi) (fun x H Q => rSlP K x lo hi H Q) := by
  intro Z BH O H x v A z Q g r hf k
  unfold slP at hf
  split at hf
  · split at hf
    · rename_i hl
      cases hf
      cases r
      exact .inr (.inr ⟨_, rfl, by rw [cap_eq]; exact hl, tell g (fun _ _ => .str _) k⟩)
    · cases hf
  · rename_i xs
    split at hf
    · rename_i hfr
      cases hf
      cases r with
      | tup e t =>
        rename_i a vs
        have t := t.free0 hfr
        refine .inr (.inl ⟨a, vs, rfl, g.le.sqT e, fun hw => ?_, fun hw p hp => ?_⟩)
        · have e1 : cutP xs lo hi = xs := by
            unfold cutP
            rw [t.length, hw.1, hw.2, List.drop_zero, Nat.sub_zero, ← t.length, List.take_length]
          rw [e1] at k
          exact tellF g (.tup e t) k
        · have n := New.tup (TB := TB) (o := .tup (cutV vs lo hi)) g hp
          exact k (.ref p) _ _ [] n (.tup (SqT.of upd_same) ((reps_cut t hfr lo hi).mono n.z fun a ha => by cases ha))
    · cases hf
  · rename_i o xs
    split at hf
    · rename_i hfr
      cases hf
      obtain ⟨a, vs, B, rfl, e, t⟩ := lst_at g.le r
      refine .inl ⟨a, vs, rfl, SqL.of e, fun p hp => ?_⟩
      exact k (.ref p) _ _ [p] (New.lst g hp) (.lstO upd_same ((reps_cut t hfr lo hi).mono .refl fun a ha => by cases ha))
    · cases hf
  · rename_i xs
    split at hf
    · rename_i hfr
      cases hf
      cases r with
      | rol e t =>
        rename_i a vs
        refine .inl ⟨a, vs, rfl, g.le.sqL e, fun p hp => ?_⟩
        exact k (.ref p) _ _ [p] (New.lst g hp) (.lstO upd_same ((reps_cut t hfr lo hi).mono .refl fun a ha => by cases ha))
    · cases hf
  · cases hf
def slF0 : List PV → Option PV
  | [x] => slP none none x
  | _ => none
def slFlo : List PV → Option PV
  | [x, .int i] => slP (some i) none x
  | _ => none
def slFhi : List PV → Option PV
  | [x, .int i] => slP none (some i) x
  | _ => none
def slF2 : List PV → Option PV
  | [x, .int i, .int j] => slP (some i) (some j) x
  | _ => none
section
variable {X : Cx} {a lo hi : Expr} {oa : Op} {l h : M PV} {p2 pos : Pos}
theorem se_sl0 (hK : X.K = K) (ha : PE X a (tOpd K TB mg W oa)) : PE X (.Subscript a (.Slice none none none p2) pos) (tE K TB mg W (eOp slF0 [oa])) := by
  subst hK
  refine conv (pe_slice sl_P ha po_none po_none) fun σ H Q q => ?_
  refine opsF (r := r1L fun x H Q => rSlP X.K x none none H Q) (fun Z BH O H xs vs z Q g rs hf k => ?_) q
  cases rs with
  | nil => cases hf
  | cons A r1 t =>
    cases t with
    | nil => exact ok_sl Z BH O H _ _ A z Q g r1 hf k
    | cons B r2 t => simp [slF0] at hf
theorem se_slhi (hK : X.K = K) (ha : PE X a (tOpd K TB mg W oa)) (hh : PE X hi (tE K TB mg W h)) : PE X (.Subscript a (.Slice none (some hi) none p2) pos) (tE K TB mg W (eOp slFhi [oa, .m (eInt h)])) := by
  subst hK
  refine conv (pe_slice sl_P ha po_none (po_some hh)) fun σ H Q q => ?_
  have q2 := opsF (r := fun vs H Q => match vs with | [x, .int i] => rSlP X.K x none (some i) H Q | _ => False) (fun Z BH O H xs vs z Q g rs hf k => ?_) q
  · exact tOpd_mono q2 fun x H1 q3 => tE_int q3 fun i H' h => h
  · cases rs with
    | nil => cases hf
    | cons A r1 t =>
      cases t with
      | nil => simp [slFhi] at hf
      | cons B r2 t =>
        cases t with
        | nil =>
          cases r2 with
          | int i => exact ok_sl Z BH O H _ _ A z Q g r1 hf k
          | _ => simp [slFhi] at hf
        | cons C r3 t => cases r2 <;> simp [slFhi] at hf
theorem se_sllo (hK : X.K = K) (ha : PE X a (tOpd K TB mg W oa)) (hl : PE X lo (tE K TB mg W l)) : PE X (.Subscript a (.Slice (some lo) none none p2) pos) (tE K TB mg W (eOp slFlo [oa, .m (eInt l)])) := by
  subst hK
  refine conv (pe_slice sl_P ha (po_some hl) po_none) fun σ H Q q => ?_
  have q2 := opsF (r := fun vs H Q => match vs with | [x, .int i] => rSlP X.K x (some i) none H Q | _ => False) (fun Z BH O H xs vs z Q g rs hf k => ?_) q
  · exact tOpd_mono q2 fun x H1 q3 => tE_int q3 fun i H' h => h
  · cases rs with
    | nil => cases hf
    | cons A r1 t =>
      cases t with
      | nil => simp [slFlo] at hf
      | cons B r2 t =>
        cases t with
        | nil =>
          cases r2 with
          | int i => exact ok_sl Z BH O H _ _ A z Q g r1 hf k
          | _ => simp [slFlo] at hf
        | cons C r3 t => cases r2 <;> simp [slFlo] at hf
theorem se_sl2 (hK : X.K = K) (ha : PE X a (tOpd K TB mg W oa)) (hl : PE X lo (tE K TB mg W l)) (hh : PE X hi (tE K TB mg W h)) : PE X (.Subscript a (.Slice (some lo) (some hi) none p2) pos) (tE K TB mg W (eOp slF2 [oa, .m (eInt l), .m (eInt h)])) := by
  subst hK
  refine conv (pe_slice sl_P ha (po_some hl) (po_some hh)) fun σ H Q q => ?_
  have q2 := opsF (r := fun vs H Q => match vs with | [x, .int i, .int j] => rSlP X.K x (some i) (some j) H Q | _ => False) (fun Z BH O H xs vs z Q g rs hf k => ?_) q
  · exact tOpd_mono q2 fun x H1 q3 => tE_int q3 fun i H' h => tE_int h fun j H'' h => h
  · cases rs with
    | nil => cases hf
    | cons A r1 t =>
      cases t with
      | nil => simp [slF2] at hf
      | cons B r2 t =>
        cases t with
        | nil => cases r2 <;> simp [slF2] at hf
        | cons C r3 t =>
          cases t with
          | nil =>
            cases r2 with
            | int i =>
              cases r3 with
              | int j => exact ok_sl Z BH O H _ _ A z Q g r1 hf k
              | _ => simp [slF2] at hf
            | _ => simp [slF2] at hf
          | cons D' r4 t => cases r2 <;> cases r3 <;> simp [slF2] at hf
end
/-! ### x[i] = v -/
def fSet : PV → List PV → Option (PV × PV)
  | .lst true xs, [y, .int i] => match ixN xs.length i with
    | some j => some (.lst true (xs.set j y), .non)
    | none => none
  | _, _ => none
theorem reps_set {xs : List PV} {vs : List V} {A B : List Addr} {y : PV} {u : V} (r : Reps K Z H xs vs A) (ry : Rep K Z H y u B) (nd : (A ++ B).Nodup) : ∀ (j : Nat), j < xs.length → ∃ A', Reps K Z H (xs.set j y) (vs.set j u) A' ∧ A'.Nodup ∧ ∀ a ∈ A', a ∈ A ∨ a ∈ B := by
  induction xs generalizing vs A with
  | nil => intro j hj; exact absurd hj (Nat.not_lt_zero _)
  | cons x xs ih =>
    intro j hj
    cases r with
    | cons r t =>
      rename_i v ws A1 A2
      cases j with
      | zero =>
        refine ⟨B ++ A2, .cons ry t, ?_, fun a ha => ?_⟩
        · simp only [List.nodup_append, List.mem_append] at nd ⊢
          grind
        · rcases List.mem_append.mp ha with h | h
          · exact .inr h
          · exact .inl (List.mem_append_right _ h)
      | succ j =>
        have nd2 : (A2 ++ B).Nodup := by
          simp only [List.nodup_append, List.mem_append] at nd ⊢
          grind
        obtain ⟨A', r', n', s'⟩ := ih t nd2 j (Nat.lt_of_succ_lt_succ hj)
        refine ⟨A1 ++ A', .cons r r', ?_, fun a ha => ?_⟩
        · simp only [List.nodup_append, List.mem_append] at nd ⊢
          grind
        · rcases List.mem_append.mp ha with h | h
          · exact .inl (List.mem_append_left _ h)
          · exact (s' a h).imp (List.mem_append_right _) id
theorem ok_set : OkM K fSet (fun v vs H Q => match vs with | [u, i] => rSetL v i u H (fun H' => Q .non H') | _ => False) := by
  intro Z H x x' y xs v vs A At Q lz r rs nd hf k
  unfold fSet at hf
  split at hf
  · rename_i l y0 i
    split at hf
    · rename_i j hj
      obtain ⟨rfl, rfl⟩ := Prod.mk.inj (Option.some.inj hf)
      cases r with
      | lstO e r =>
        rename_i a ws A0
        cases rs with
        | cons h t =>
          rename_i u us B C
          cases t with
          | cons h2 t2 =>
            cases t2
            cases h2
            have nd' : (A0 ++ B).Nodup := by
              simp only [List.nodup_append, List.mem_append, List.cons_append, List.nodup_cons, List.append_nil] at nd ⊢
              grind
            have na : a ∉ A0 ++ B := by
              simp only [List.nodup_append, List.mem_append, List.cons_append, List.nodup_cons, List.append_nil] at nd ⊢
              grind
            have lt := (ixN_seq hj).2.1
            obtain ⟨A', r', n', s'⟩ := reps_set r h nd' j lt
            have sub : ∀ b ∈ A', b ∈ A0 ++ B := fun b hb => List.mem_append.mpr (s' b hb)
            refine ⟨a, ws, i, j, rfl, rfl, e, by rw [← r.length]; exact hj, k .non _ (a :: A') (.lstO upd_same (r'.mono .refl fun b hb o q => upd_keep q fun z => na (z ▸ sub b hb))) (fun b hb => ?_) (List.nodup_cons.mpr ⟨fun m => na (sub a m), n'⟩) (fun b o q n => upd_keep q fun z => n (by rw [z]; exact List.mem_cons_self ..)) (fun b q => upd_dom q) .non⟩
            rcases List.mem_cons.mp hb with rfl | hb
            · exact .inl (List.mem_cons_self ..)
            · rcases s' b hb with h | h
              · exact .inl (List.mem_cons_of_mem _ h)
              · exact .inr (List.mem_append_left _ h)
    · cases hf
  · cases hf
section
variable {X : Cx} {pos tpos npos : Pos} {e ix : Expr} {m n : M PV}
theorem ss_setIx {i : Nat} {x : Str} (hN : X.N[i]? = some x) (hv : Vis X.env.scope x) (he : PE X e (tE K TB mg W m)) (hi : PE X ix (tE K TB mg W n)) (hd : (x == ("__debug__" : Str)) = false := by decide) (hcd : (x == ("__classdict__" : Str)) = false := by decide)
    (ha : ∀ v, assign (.Subscript (.Name x npos) ix tpos) X.env v = (do
      let ov ← holding [v] (eval (.Name x npos) X.env)
      let iv ← holding [v, ov] (eval ix X.env)
      standAt tpos
      holding [v, ov, iv] (setItem ov iv v)
      release [v, ov, iv] []) := by intro _; rfl) (hs : swapsWithSole [.Subscript (.Name x npos) ix tpos] e pos.line X.env = pure false := by rfl) (hw : swappedStores [.Subscript (.Name x npos) ix tpos] e X.env = pure none := by rfl)
    (h1 : (assignEach [.Subscript (.Name x npos) ix tpos] X.env).map (·.2) = [assign (.Subscript (.Name x npos) ix tpos) X.env] := by rfl) :
    PS X (.Assign [.Subscript (.Name x npos) ix tpos] e pos) (tS K TB mg W (sExpr (eMut i isLstO fSet [m, n]))) := by
  refine convS (ps_asg he (pg_sub (pe_var hN hv hd hcd) hi set_list ha) hs hw h1) fun D σ H q => ?_
  have q1 := tS_expr q
  obtain ⟨v, ev, _, q2⟩ := tE_mut ty_list ok_set q1
  refine tE_mono (Q := fun x H1 => tE K TB mg W n σ H1 fun j H2 => rSetL v j x H2 fun H' => D.nx σ H') q2 fun x H1 q3 => ?_
  exact ⟨v, ev, q3⟩
/-! ### methods -/
theorem se_mut {i : Nat} {x : Str} {name : Str} {T id : String} {r : V → List V → Hp → VK → Prop} {f : PV → List PV → Option (PV × PV)} {ty : PV → Bool} {e : Expr} {es : List Expr} {ms : List (M PV)} {apos cpos : Pos} (hN : X.N[i]? = some x) (hv : Vis X.env.scope x) (hK : X.K = K)
    (pa : PlainAttrs T) (slot : Slot T name id) (hty : typeOf (.builtin id) = pure (.type "method_descriptor")) (hm : MtR X id r) (ot : OkTy K ty (tyV K T)) (ok : OkM K f r) (ha : PA X (e :: es) (tEs K TB mg W ms)) (hd : (x == ("__debug__" : Str)) = false := by decide) (hcd : (x == ("__classdict__" : Str)) = false := by decide)
    (hbase : attributeBase (.Name x npos) name X.env (eval (.Name x npos) X.env) = eval (.Name x npos) X.env := by rfl)
    (hfew : ((backTo cpos (starEach (e :: es) X.env)).all (fun x => !x.1) && (backToKw cpos (keywordEach [] X.env)).all (fun x => x.1.isSome)
      && decide ((e :: es).length + ([] : List Keyword).length + (if ([] : List Keyword).isEmpty then 0 else 1) < 30)) = true := by rfl)
    (hline : (apos.endLine == cpos.line) = true := by rfl) (hs : starEach (e :: es) X.env = (false, eval e X.env) :: starEach es X.env := by rfl) (hplain : (backTo cpos (starEach es X.env)).any (·.1) = false := by rfl) :
    PE X (.Call (.Attribute (.Name x npos) name apos) (e :: es) [] cpos) (tE K TB mg W (eMut i ty f ms)) := by
  subst hK
  exact conv (pe_bm pa slot hty hm (pe_var hN hv hd hcd) ha hbase hfew hline hs hplain) fun _ _ _ q => tE_mut ot ok q
theorem se_mut0 {i : Nat} {x : Str} {name : Str} {T id : String} {r : V → List V → Hp → VK → Prop} {f : PV → List PV → Option (PV × PV)} {ty : PV → Bool} {apos cpos : Pos} (hN : X.N[i]? = some x) (hv : Vis X.env.scope x) (hK : X.K = K)
    (pa : PlainAttrs T) (slot : Slot T name id) (hty : typeOf (.builtin id) = pure (.type "method_descriptor")) (hm : MtR X id r) (ot : OkTy K ty (tyV K T)) (ok : OkM K f r) (hd : (x == ("__debug__" : Str)) = false := by decide) (hcd : (x == ("__classdict__" : Str)) = false := by decide)
    (hbase : attributeBase (.Name x npos) name X.env (eval (.Name x npos) X.env) = eval (.Name x npos) X.env := by rfl) (hline : (apos.endLine == cpos.line) = true := by rfl) :
    PE X (.Call (.Attribute (.Name x npos) name apos) [] [] cpos) (tE K TB mg W (eMut i ty f [])) := by
  subst hK
  exact conv (pe_bm0 pa slot hty hm (pe_var hN hv hd hcd) hbase hline) fun _ _ _ q => tE_mut ot ok q
/-! ### comprehensions -/
def tYesE : M Bool := cTrue
theorem yes_of {σ : L2.St} {R : Bool → Hp → Prop} (h : tT K TB mg W cTrue σ H R) : tYes σ H R := by
  obtain ⟨F, env, tm, Z, O, s, p⟩ := h
  exact p H Z O .refl s
theorem se_lc {elt tg iter : Expr} {ifs : List Expr} {scope : Scope} {own : List (Str × Nat)} {src : Src} {is : List Nat} {g : Bnd} {gg : TG} {tt : M Bool} {te : M PV} {W' : WX} {tts : TT} (hc : X.calm = true) (hN : X.N.Nodup) (hi : PI X tg iter (tI K TB mg W src)) (ok : BlkOk X.N X.env.scope scope own) (og : OkG K TB is g gg) (hin : ∀ i ∈ is, i ∈ own.map (·.2))
    (ott : ∀ σ H Q, tT K TB mg W' tt σ H Q → tts σ H Q)
    (hg : ∀ (s : Shared) (H : Hp) (C : Addr) (cl : List (Str × Addr)) (fp : List Addr), PG (X.blk s H scope (compEnvC scope cl C X.env) fp) tg gg) (ht : ∀ (s : Shared) (H : Hp) (C : Addr) (cl : List (Str × Addr)) (fp : List Addr), PTs (X.blk s H scope (compEnvC scope cl C X.env) fp) ifs tts)
    (he : ∀ (s : Shared) (H : Hp) (C : Addr) (cl : List (Str × Addr)) (fp : List Addr), PE (X.blk s H scope (compEnvC scope cl C X.env) fp) elt (tE K TB mg W' te)) (hs : ∀ x, foldedSetIterable iter X.env x = pure x := by intro _; rfl) :
    PE X (.ListComp elt [⟨tg, iter, ifs, 0⟩] scope pos) (tE K TB mg W (eLc src (own.map (·.2)) g tt te)) := conv (pe_lc hc hN hi ok hg ht he hs) fun _ _ _ q => tE_lc og hin ott q
theorem ss_setLc {i : Nat} {y : Str} {py spos : Pos} {elt tg iter : Expr} {ifs : List Expr} {scope : Scope} {own : List (Str × Nat)} {src : Src} {is : List Nat} {g : Bnd} {gg : TG} {tt : M Bool} {te : M PV} {W' : WX} {tts : TT} (hc : X.calm = true) (hN : X.N.Nodup) (hy : X.N[i]? = some y) (hyl : X.env.scope.names.lookup y = some .local)
    (hsw : swapsWith (.ListComp elt [⟨tg, iter, ifs, 0⟩] scope pos) (some (.Name y py)) spos.line X.env = pure true) (hi : PI X tg iter (tI K TB mg W src)) (ok : BlkOk X.N X.env.scope scope own) (og : OkG K TB is g gg) (hin : ∀ i ∈ is, i ∈ own.map (·.2))
    (ott : ∀ σ H Q, tT K TB mg W' tt σ H Q → tts σ H Q)
    (hg : ∀ (s : Shared) (H : Hp) (C : Addr) (cl : List (Str × Addr)) (fp : List Addr), PG (X.blk s H scope (compEnvC scope cl C X.env) fp) tg gg) (ht : ∀ (s : Shared) (H : Hp) (C : Addr) (cl : List (Str × Addr)) (fp : List Addr), PTs (X.blk s H scope (compEnvC scope cl C X.env) fp) ifs tts)
    (he : ∀ (s : Shared) (H : Hp) (C : Addr) (cl : List (Str × Addr)) (fp : List Addr), PE (X.blk s H scope (compEnvC scope cl C X.env) fp) elt (tE K TB mg W' te)) (hs : ∀ x, foldedSetIterable iter X.env x = pure x := by intro _; rfl) :
    PS X (.Assign [.Name y py] (.ListComp elt [⟨tg, iter, ifs, 0⟩] scope pos) spos) (tS K TB mg W (sAsg i (eLc src (own.map (·.2)) g tt te))) :=
  convS (ps_setLc hc hN hy hyl hsw hi ok hg ht he hs) fun D σ H q => by
    have q1 := tS_asg q
    exact tE_lc og hin ott q1
theorem sp_nil {W' : WX} : PTs X [] tYes := pts_nil
end
end Ev

set_option Elab.async false
set_option linter.all false
set_option maxRecDepth 100000
set_option maxHeartbeats 2000000
/-! Quantifiers, refusals, built-ins, methods. -/
namespace Ev
open PySem PySem.Spec PyProof.Rows L2 GxR Gx Gq
variable {K : PySem.W.Frag} {Z Z' H H' BH BH' : Hp} {TB : List Addr} {F : Fx} {env env' : Env} {σ : List (Option V)} {tm ts : Tm} {O O' : List Addr} {mg : Str → Option Value} {W : WX} {Q Q' : VK} {D : Ends} {R : It → Hp → Prop}
section
variable {X : Cx} {pos : Pos}
/-! ### all, any -/
theorem se_all {c P : Addr} {elt iter tg : Expr} {p gpos : Pos} {scope : Scope} {own : List (Str × Nat)} {src : Src} {is : List Nat} {g : Bnd} {gg : TG} {te : M PV} {W' : WX} {k : Nat}
    (room : Room (k + 1) X.A) (hN : X.N.Nodup) (hg : Gl X "all") (hm : X.mg "all" = none) (tb : TabB X.base X.mg c P) (code : X.env.code = .ref c) (hP : P ∈ TB) (hi : PI X tg iter (tI K TB mg W src)) (ok : BlkOk X.N X.env.scope scope own) (nocell : (scope.names.all fun y => decide (y.2 ≠ .cell)) = true) (hco : scope.isCoroutine = false) (hdot : scope.names.lookup (".0" : Str) = some NameKind.local)
    (og : OkG K TB is g gg) (hin : ∀ i ∈ is, i ∈ own.map (·.2))
    (pg : ∀ (s : Shared) (H : Hp) (C : Addr) (cl : List (Str × Addr)) (cd : Value) (A : Around) (fp : List Addr), PG (gctx X s H (genEnv scope cl C cd builtinsNs X.env) A fp) tg gg)
    (pe : ∀ (s : Shared) (H : Hp) (C : Addr) (cl : List (Str × Addr)) (cd : Value) (A : Around) (fp : List Addr), Room k A → PE (gctx X s H (genEnv scope cl C cd builtinsNs X.env) A fp) elt (tE K TB mg W' te))
    (fold : ∀ v, genFold iter X.env v = pure v := by intro _; rfl)
    (he : starEach [.GeneratorExp elt [⟨tg, iter, [], 0⟩] scope gpos] X.env = (false, eval (.GeneratorExp elt [⟨tg, iter, [], 0⟩] scope gpos) X.env) :: starEach [] X.env := by rfl) :
    PE X (.Call (.Name "all" p) [.GeneratorExp elt [⟨tg, iter, [], 0⟩] scope gpos] [] pos) (tE K TB mg W (eQ src (own.map (·.2)) g true te)) :=
  conv (pe_allQ room hN hg hm tb code hi ok nocell hco hdot pg pe fold he) fun _ _ _ q => tE_q hP og hin q
theorem se_any {c P : Addr} {elt iter tg : Expr} {p gpos : Pos} {scope : Scope} {own : List (Str × Nat)} {src : Src} {is : List Nat} {g : Bnd} {gg : TG} {te : M PV} {W' : WX} {k : Nat}
    (room : Room (k + 1) X.A) (hN : X.N.Nodup) (hg : Gl X "any") (hm : X.mg "any" = none) (tb : TabB X.base X.mg c P) (code : X.env.code = .ref c) (hP : P ∈ TB) (hi : PI X tg iter (tI K TB mg W src)) (ok : BlkOk X.N X.env.scope scope own) (nocell : (scope.names.all fun y => decide (y.2 ≠ .cell)) = true) (hco : scope.isCoroutine = false) (hdot : scope.names.lookup (".0" : Str) = some NameKind.local)
    (og : OkG K TB is g gg) (hin : ∀ i ∈ is, i ∈ own.map (·.2))
    (pg : ∀ (s : Shared) (H : Hp) (C : Addr) (cl : List (Str × Addr)) (cd : Value) (A : Around) (fp : List Addr), PG (gctx X s H (genEnv scope cl C cd builtinsNs X.env) A fp) tg gg)
    (pe : ∀ (s : Shared) (H : Hp) (C : Addr) (cl : List (Str × Addr)) (cd : Value) (A : Around) (fp : List Addr), Room k A → PE (gctx X s H (genEnv scope cl C cd builtinsNs X.env) A fp) elt (tE K TB mg W' te))
    (fold : ∀ v, genFold iter X.env v = pure v := by intro _; rfl)
    (he : starEach [.GeneratorExp elt [⟨tg, iter, [], 0⟩] scope gpos] X.env = (false, eval (.GeneratorExp elt [⟨tg, iter, [], 0⟩] scope gpos) X.env) :: starEach [] X.env := by rfl) :
    PE X (.Call (.Name "any" p) [.GeneratorExp elt [⟨tg, iter, [], 0⟩] scope gpos] [] pos) (tE K TB mg W (eQ src (own.map (·.2)) g false te)) :=
  conv (pe_anyQ room hN hg hm tb code hi ok nocell hco hdot pg pe fold he) fun _ _ _ q => tE_q hP og hin q
/-! ### refusals -/
def sRaise (c : Str) : SM := fun env => .exc c [] env
theorem ss_raise {c m : Str} {j : Nat} {p p2 p3 : Pos} (N : Gk.Er K mg c) (hK : X.K = K) (hM : X.mg = mg) (hc : X.calm = true) (tk : Takes X W) (hg : Gl X c) (hdb : (c == ("__debug__" : Str)) = false := by decide) :
    PS X (.Raise (some (.Call (.Name c p) [.Constant (.str m) j p2] [] p3)) none pos) (tS K TB mg W (sRaise c)) := by
  subst hK hM
  refine convS (ps_raise hc tk (pmk_own PySem.F.excBase_ValueError N.x N.g N.k (raises_own N.b N.t) hg hdb)) fun D σ H q => ?_
  obtain ⟨F, env, tm, Z, O, s, p⟩ := q
  exact p σ _ _ H Z O .refl s ⟨N.g, .inl ⟨rfl, rfl⟩⟩
/-! ### isinstance -/
def tysP (n : List String) : PV → Option PV := fun x => match tyP x with
  | some t => some (.bl (n.any fun m => isTy t m))
  | none => none
theorem ok_isi {n : String} (hn : n ∈ ["str", "int", "bool", "tuple", "list"]) : OkF K TB (f1 (isiP n)) (fun vs H Q => match vs with | [x] => rIsi K [x, .ty n] H Q | _ => False) := by
  intro Z BH O H xs vs z Q g rs hf k
  cases rs with
  | nil => cases hf
  | cons A r1 t =>
    cases t with
    | nil =>
      unfold f1 isiP at hf
      simp only at hf
      split at hf
      · rename_i t ht
        cases hf
        have mt : t ∈ ["NoneType", "bool", "int", "str", "tuple", "list", "dict"] := by
          cases r1 <;> first | (cases ht; simp; done) | (cases ht)
        exact ⟨_, _, _, _, _, rfl, .ty n, ty_of g.le r1 ht, kit_bool t mt n hn, tell g (fun _ _ => .bl _) k⟩
      · cases hf
    | cons B r2 t => cases hf
theorem se_isi {a : Expr} {o : Op} {n : Str} {ns : String} {p p2 : Pos} (hK : X.K = K) (hg : Gl X "isinstance") (hm : X.mg "isinstance" = none) (ha : PE X a (tOpd K TB mg W o)) (hgt : Gl X n) (hmt : X.mg n = none) (hv : bootBuiltins n = some (.type ns)) (hn : ns ∈ ["str", "int", "bool", "tuple", "list"])
    (hnn : n ≠ "__name__" := by decide) (hd : (n == ("__debug__" : Str)) = false := by decide)
    (he : starEach [a, .Name n p2] X.env = (false, eval a X.env) :: starEach [.Name n p2] X.env := by rfl) (he2 : starEach [.Name n p2] X.env = (false, eval (.Name n p2) X.env) :: starEach [] X.env := by rfl) (hpl : (backTo pos (starEach [.Name n p2] X.env)).any (·.1) = false := by rfl) :
    PE X (.Call (.Name "isinstance" p) [a, .Name n p2] [] pos) (tE K TB mg W (eOp (f1 (isiP ns)) [o])) := by
  subst hK
  exact conv (pe_callB call_isi hg hm (by decide +kernel) (pa_cons ha (pa_cons (pe_bltn (v := .ty ns) hgt hmt hv rfl hnn hd) pa_nil he2) he) (by decide) (by decide) he hpl) fun σ H Q q => opsF (ok_isi hn) q
/-! ### the parts of a tuple -/
def sAsgG (g : Bnd) (m : M PV) : SM := sOf m fun x env' => match g x.frz env' with
  | some e => .nx e
  | none => .bad
theorem tS_asgG {is : List Nat} {g : Bnd} {gg : TG} {m : M PV} {σ : L2.St} (og : OkG K TB is g gg) (h : tS K TB mg W (sAsgG g m) D σ H) : tAsg (tE K TB mg W m) gg D σ H := by
  refine tS_of h fun F e tm x v Z O H s p => ?_
  split at p
  · rename_i e1 hg
    obtain ⟨Z2, O2, st2, sm2, hr⟩ := s.frzTm
    refine og F e e1 σ tm Z2 H O2 x.frz v D.nx sm2 (hr (x, v) (List.mem_singleton.mpr rfl)) hg fun σ' O' _ _ st3 sm3 => ?_
    exact p σ' H Z2 O' (st2.trans st3) sm3
  · exact p.elim
theorem ss_asgG {tgt e : Expr} {is : List Nat} {g : Bnd} {gg : TG} {m : M PV} (og : OkG K TB is g gg) (he : PE X e (tE K TB mg W m)) (hg : PG X tgt gg) (hs : swapsWithSole [tgt] e pos.line X.env = pure false := by rfl) (hw : swappedStores [tgt] e X.env = pure none := by rfl)
    (h1 : (assignEach [tgt] X.env).map (·.2) = [assign tgt X.env] := by rfl) : PS X (.Assign [tgt] e pos) (tS K TB mg W (sAsgG g m)) := convS (ps_asg he hg hs hw h1) fun _ _ _ => tS_asgG og
/-- a, b = x, y -/
def sPar2 (i j : Nat) (m n : M PV) : SM := fun env => match evL [m, n] env with
  | .ok [x, y] e => match e[i]?, e[j]? with
    | some (some (.io, _)), _ => .bad
    | _, some (some (.io, _)) => .bad
    | some _, some _ => .nx ((e.set i (some (.own, x))).set j (some (.own, y)))
    | _, _ => .bad
  | .ok _ _ => .bad
  | .exc c xs e => .exc c xs e
  | .bad => .bad
theorem tS_par2 {i j : Nat} {m n : M PV} {σ : L2.St} (hij : i ≠ j) (h : tS K TB mg W (sPar2 i j m n) D σ H) : tPar i j (tEs K TB mg W [m, n]) D σ H := by
  obtain ⟨F, env, tm, Z, O, s, p⟩ := h
  unfold sPar2 at p
  refine evL_ok [m, n] s ?_
  cases q : evL [m, n] env with
  | exc c xs e => rw [q] at p; exact p σ
  | bad => rw [q] at p; exact p
  | ok l e =>
    rw [q] at p
    intro ts H' Z' O' st sm g
    have ln := evL_len q
    rw [← g] at p
    match ts, ln, g, sm, p with
    | [(x, v), (y, w)], _, _, sm, p =>
      refine ⟨v, w, rfl, ?_⟩
      simp only [List.map_cons, List.map_nil] at p
      split at p
      · exact p.elim
      · exact p.elim
      · rename_i a b n1 n2 h1 h2
        have sm' : Sim K TB F e σ ((tm ++ [(x, v)]) ++ [(y, w)]) Z' H' O' := by
          rw [List.append_assoc]; exact sm
        have ne1 : ∀ z, e[i]? ≠ some (some (Kd.io, z)) := fun z hz => by
          rw [hz] at h1
          exact n1 z (Option.some.inj h1).symm
        have ne2 : ∀ z, e[j]? ≠ some (some (Kd.io, z)) := fun z hz => by
          rw [hz] at h2
          exact n2 z (Option.some.inj h2).symm
        obtain ⟨O1, st1, s1⟩ := sm'.store (lt_of_some h2) ne2
        have ne3 : ∀ z, (e.set j (some (Kd.own, y)))[i]? ≠ some (some (Kd.io, z)) := fun z hz => by
          rw [List.getElem?_set_ne (Ne.symm hij)] at hz
          exact ne1 z hz
        obtain ⟨O2, st2, s2⟩ := s1.store (by rw [List.length_set]; exact lt_of_some h1) ne3
        rw [List.set_comm _ _ (Ne.symm hij), List.set_comm _ _ (Ne.symm hij)] at s2
        exact p _ H' Z' O2 ((st.trans st1).trans st2) s2
      · exact p.elim
theorem ss_par2 {i j : Nat} {x y : Str} {a b : Expr} {m n : M PV} {px py pt : Pos} {kt k2 pt2} (hc : X.calm = true) (hN : X.N.Nodup) (hi : X.N[i]? = some x) (hj : X.N[j]? = some y) (hij : i ≠ j)
    (hx : X.env.scope.names.lookup x = some .local) (hy : X.env.scope.names.lookup y = some .local) (ha : PA X [a, b] (tEs K TB mg W [m, n]))
    (hw : swappedStores [.Tuple [.Name x px, .Name y py] kt pt] (.Tuple [a, b] k2 pt2) X.env = pure (some [x, y]))
    (hs : swapsWithSole [.Tuple [.Name x px, .Name y py] kt pt] (.Tuple [a, b] k2 pt2) pos.line X.env = pure false := by rfl) :
    PS X (.Assign [.Tuple [.Name x px, .Name y py] kt pt] (.Tuple [a, b] k2 pt2) pos) (tS K TB mg W (sPar2 i j m n)) := convS (ps_par hc hN hi hj hij hx hy ha hw hs) fun _ _ _ => tS_par2 hij
/-! ### methods that only read: the receiver is looked at first -/
def eMth (i : Nat) (ty : PV → Bool) (f : List PV → Option PV) (ops : List Op) : M PV := fun env => match env[i]? with
  | some (some (_, x)) => if ty x then eOp f (.v i :: ops) env else .bad
  | _ => .bad
theorem tE_mth {i : Nat} {ty : PV → Bool} {tv : V → Hp → Prop} {f : List PV → Option PV} {r : V → List V → Hp → VK → Prop} {ops : List Op} (ot : OkTy K ty tv) (ok : OkF K TB f (fun vs H Q => match vs with | v :: vs => r v vs H Q | [] => False)) (h : tE K TB mg W (eMth i ty f ops) σ H Q) :
    tVar i σ H fun x H1 => tv x H1 ∧ tOpds K TB mg W ops σ H1 fun xs H2 => r x xs H2 Q := by
  obtain ⟨F, env, tm, Z, O, s, p⟩ := h
  unfold eMth at p
  split at p
  · rename_i k0 x0 e0
    split at p
    · rename_i ht
      obtain ⟨v, A, ev, rp⟩ := s.get e0
      have q := opsF ok ⟨F, env, tm, Z, O, s, p⟩
      obtain ⟨w, ew, q⟩ := q
      rw [ev] at ew
      cases ew
      exact ⟨v, ev, ot Z H x0 v A s.good.le rp ht, q⟩
    · exact p.elim
  · exact p.elim
theorem se_mth {i : Nat} {x : Str} {name : Str} {T id : String} {r : V → List V → Hp → VK → Prop} {f : List PV → Option PV} {ty : PV → Bool} {e : Expr} {es : List Expr} {ops : List Op} {apos cpos npos : Pos} (hN : X.N[i]? = some x) (hv : Vis X.env.scope x) (hK : X.K = K)
    (pa : PlainAttrs T) (slot : Slot T name id) (hty : typeOf (.builtin id) = pure (.type "method_descriptor")) (hm : MtR X id r) (ot : OkTy K ty (tyV K T)) (ok : OkF K TB f (fun vs H Q => match vs with | v :: vs => r v vs H Q | [] => False)) (ha : PA X (e :: es) (tOpds K TB mg W ops)) (hd : (x == ("__debug__" : Str)) = false := by decide) (hcd : (x == ("__classdict__" : Str)) = false := by decide)
    (hbase : attributeBase (.Name x npos) name X.env (eval (.Name x npos) X.env) = eval (.Name x npos) X.env := by rfl)
    (hfew : ((backTo cpos (starEach (e :: es) X.env)).all (fun x => !x.1) && (backToKw cpos (keywordEach [] X.env)).all (fun x => x.1.isSome)
      && decide ((e :: es).length + ([] : List Keyword).length + (if ([] : List Keyword).isEmpty then 0 else 1) < 30)) = true := by rfl)
    (hline : (apos.endLine == cpos.line) = true := by rfl) (hs : starEach (e :: es) X.env = (false, eval e X.env) :: starEach es X.env := by rfl) (hplain : (backTo cpos (starEach es X.env)).any (·.1) = false := by rfl) :
    PE X (.Call (.Attribute (.Name x npos) name apos) (e :: es) [] cpos) (tE K TB mg W (eMth i ty f ops)) := by
  subst hK
  exact conv (pe_bm pa slot hty hm (pe_var hN hv hd hcd) ha hbase hfew hline hs hplain) fun _ _ _ q => tE_mth ot ok q
/-- a text is wanted -/
def eStr (m : M PV) : M PV := fun env => match m env with
  | .ok (.str z) e => .ok (.str z) e
  | .ok _ _ => .bad
  | .exc c xs e => .exc c xs e
  | .bad => .bad
theorem str_of {v : V} {z : Str} (s : Sim K TB F env σ (tm ++ [(.str z, v)]) Z H O) : v = .str z := by
  obtain ⟨P1, P2, eP, t1, t2⟩ := s.splitTm
  generalize hS : tmE [(PV.str z, v)] = E at t2
  generalize hV : tmV [(PV.str z, v)] = EV at t2
  cases t2 with
  | nil => cases hS
  | non v t => cases hS
  | bor h t => cases hS
  | own hk r t =>
    cases hS
    cases hV
    cases r
    rfl
theorem tE_str {m : M PV} (h : tE K TB mg W (eStr m) σ H Q) : tE K TB mg W m σ H fun v H' => (∃ z, v = .str z) ∧ Q v H' := by
  obtain ⟨F, env, tm, Z, O, s, p⟩ := h
  refine ⟨F, env, tm, Z, O, s, ?_⟩
  unfold eStr at p
  cases q : m env with
  | ok x e =>
    rw [q] at p
    cases x with
    | str z =>
      intro v H' Z' O' st sm
      have ev := str_of (z := z) sm
      exact ⟨⟨z, ev⟩, p _ H' Z' O' st sm⟩
    | _ => exact p.elim
  | exc c xs e => rw [q] at p; exact p
  | bad => rw [q] at p; exact p
theorem se_s0 {id : String} {name : Str} {o : Expr} {m : M PV} {apos : Pos} {r : V → List V → Hp → VK → Prop} {f : PV → Option PV} (slot : Slot "str" name id) (ty : typeOf (.builtin id) = pure (.type "method_descriptor")) (rule : MtR X id r) (ok : Ok1F K TB f (fun x H Q => r x [] H Q)) (ho : PE X o (tE K TB mg W m))
    (hbase : attributeBase o name X.env (eval o X.env) = eval o X.env := by rfl) (hline : (apos.endLine == pos.line) = true := by rfl) : PE X (.Call (.Attribute o name apos) [] [] pos) (tE K TB mg W (eOp (f1 f) [.m (eStr m)])) :=
  conv (pe_m0 slot ty rule ho hbase hline) fun σ H Q q => tE_str (opsF ok.ok q)
theorem se_s1 {id : String} {name : Str} {o e : Expr} {m : M PV} {oe : Op} {apos : Pos} {r : V → List V → Hp → VK → Prop} {f : PV → PV → Option PV} (slot : Slot "str" name id) (ty : typeOf (.builtin id) = pure (.type "method_descriptor")) (rule : MtR X id r) (ok : Ok2F K TB f (fun x y H Q => r x [y] H Q)) (ho : PE X o (tE K TB mg W m)) (he : PE X e (tOpd K TB mg W oe))
    (hs : starEach [e] X.env = [(false, eval e X.env)] := by rfl) (hbase : attributeBase o name X.env (eval o X.env) = eval o X.env := by rfl) (hline : (apos.endLine == pos.line) = true := by rfl) :
    PE X (.Call (.Attribute o name apos) [e] [] pos) (tE K TB mg W (eOp (f2 f) [.m (eStr m), oe])) :=
  conv (pe_m1 slot ty rule ho he hs hbase hline) fun σ H Q q => tE_str (opsF ok.ok q)
end
/-! ### texts out of lists -/
def strsP : List PV → Option (List Str)
  | [] => some []
  | .str z :: xs => match strsP xs with
    | some zs => some (z :: zs)
    | none => none
  | _ => none
theorem strs_of {xs : List PV} {vs : List V} {A : List Addr} {zs : List Str} (r : Reps K Z H xs vs A) (h : strsP xs = some zs) : vs = zs.map V.str := by
  induction xs generalizing vs A zs with
  | nil => cases r; cases h; rfl
  | cons x xs ih =>
    cases r with
    | cons r t =>
      cases r <;> first
        | (simp only [strsP] at h
           split at h
           · rename_i ys hy
             cases h
             rw [ih t hy]
             rfl
           · cases h)
        | cases h
theorem reps_strs {zs : List Str} : Reps K Z H (zs.map PV.str) (zs.map V.str) [] := by
  induction zs with
  | nil => exact .nil
  | cons z zs ih => exact Reps.cons (A := []) (B := []) (.str z) ih
def joinP : PV → PV → Option PV
  | .str a, y => match seqP y with
    | some ys => match strsP ys with
      | some zs => if (zs.map (·.length)).sum + zs.length * a.length ≤ 16777216 then some (.str (Txt.join a zs)) else none
      | none => none
    | none => none
  | _, _ => none
theorem ok_join : Ok2F K TB joinP (fun x y H Q => ∃ a p, ∃ ys : List Str, x = .str a ∧ [y] = [V.ref p] ∧ (SqL K H p (ys.map V.str) ∨ SqT K H p (ys.map V.str)) ∧ (ys.map (·.length)).sum + ys.length * a.length ≤ 16777216 ∧ Q (.str (Txt.join a ys)) H) := by
  intro Z BH O H x y v w A B z Q g r1 r2 hf k
  unfold joinP at hf
  split at hf
  · rename_i a _
    split at hf
    · rename_i ys hy
      split at hf
      · rename_i zs hz
        split at hf
        · rename_i hl
          cases hf
          cases r1
          obtain ⟨p, vs, C, rfl, sq, t⟩ := seq_at g.le r2 hy
          rw [strs_of t hz] at sq
          exact ⟨_, p, zs, rfl, rfl, sq, hl, tell g (fun _ _ => .str _) k⟩
        · cases hf
      · cases hf
    · cases hf
  · cases hf
def splitP : PV → PV → Option PV
  | .str a, .str b => if b.length ≠ 0 ∧ a.length + 2 ≤ CAP then some (.lst true ((Txt.split a b).map .str)) else none
  | _, _ => none
theorem ok_split : Ok2F K TB splitP (fun x y H Q => ∃ a b, x = .str a ∧ [y] = [V.str b] ∧ (b.length == 0) = false ∧ a.length + 2 ≤ sizeLine ∧ rNewStrs (Txt.split a b) H Q) := by
  intro Z BH O H x y v w A B z Q g r1 r2 hf k
  unfold splitP at hf
  split at hf
  · split at hf
    · rename_i hl
      cases hf
      cases r1
      cases r2
      refine ⟨_, _, rfl, rfl, by simpa using hl.1, by rw [cap_eq]; exact hl.2, fun p hp => ?_⟩
      exact k (.ref p) _ _ [p] (New.lst g hp) (.lstO upd_same reps_strs)
    · cases hf
  · cases hf
end Ev

set_option Elab.async false
set_option linter.all false
set_option maxRecDepth 100000
set_option maxHeartbeats 2000000
/-! More of built-ins and methods. -/
namespace Ev
open PySem PySem.Spec PyProof.Rows L2 GxR Gx Gq
variable {K : PySem.W.Frag} {Z Z' H H' BH BH' : Hp} {TB : List Addr} {F : Fx} {env env' : Env} {σ : List (Option V)} {tm ts : Tm} {O O' : List Addr} {mg : Str → Option Value} {W : WX} {Q Q' : VK} {D : Ends} {R : It → Hp → Prop}
theorem one_op {f : PV → Option PV} {r : List V → Hp → VK → Prop} (h : ∀ (Z BH : Hp) (O : List Addr) (H : Hp) (x : PV) (v : V) (A : List Addr) (z : PV) (Q : VK), Good TB Z BH O H → Rep K Z H x v A → f x = some z → (∀ u H' Z' A', New TB Z H Z' A' H' → Rep K Z' H' z u A' → Q u H') → r [v] H Q) : OkF K TB (f1 f) r := by
  intro Z BH O H xs vs z Q g rs hf k
  cases rs with
  | nil => cases hf
  | cons A r1 t =>
    cases t with
    | nil => exact h Z BH O H _ _ A z Q g r1 hf k
    | cons B r2 t => cases hf
theorem two_op {f : PV → PV → Option PV} {r : List V → Hp → VK → Prop} (h : ∀ (Z BH : Hp) (O : List Addr) (H : Hp) (x y : PV) (v w : V) (A B : List Addr) (z : PV) (Q : VK), Good TB Z BH O H → Rep K Z H x v A → Rep K Z H y w B → f x y = some z → (∀ u H' Z' A', New TB Z H Z' A' H' → Rep K Z' H' z u A' → Q u H') → r [v, w] H Q) : OkF K TB (f2 f) r := by
  intro Z BH O H xs vs z Q g rs hf k
  cases rs with
  | nil => cases hf
  | cons A r1 t =>
    cases t with
    | nil => cases hf
    | cons B r2 t =>
      cases t with
      | nil => exact h Z BH O H _ _ _ _ A B z Q g r1 r2 hf k
      | cons C r3 t => cases hf
/-! ### numbers, texts -/
def ordP : PV → Option PV
  | .str z => if z.length = 1 then some (.int (z.cps.getD 0 0 : Nat)) else none
  | _ => none
theorem ok_ord : OkF K TB (f1 ordP) (fun xs H Q => ∃ x, xs = [.str x] ∧ x.length = 1 ∧ Q (.int (x.cps.getD 0 0 : Nat)) H) := one_op fun Z BH O H x v A z Q g r hf k => by
  unfold ordP at hf
  split at hf
  · split at hf
    · rename_i hl
      cases hf
      cases r
      exact ⟨_, rfl, hl, tell g (fun _ _ => .int _) k⟩
    · cases hf
  · cases hf
def intP : PV → Option PV
  | .int i => some (.int i)
  | .bl b => some (.int (if b then 1 else 0))
  | _ => none
theorem ok_int : OkF K TB (f1 intP) (fun xs H Q => (∃ i, xs = [.int i] ∧ Q (.int i) H) ∨ ∃ k, xs = [.bl k] ∧ Q (.int (if k then 1 else 0)) H) := one_op fun Z BH O H x v A z Q g r hf k => by
  unfold intP at hf
  split at hf
  · cases hf
    cases r
    exact .inl ⟨_, rfl, tell g (fun _ _ => .int _) k⟩
  · cases hf
    cases r
    exact .inr ⟨_, rfl, tell g (fun _ _ => .int _) k⟩
  · cases hf
def strP : PV → Option PV
  | .int i => if i.natAbs.log2 < 1920 then some (.str (toString i)) else none
  | _ => none
theorem ok_str : OkF K TB (f1 strP) (fun xs H Q => ∃ i, xs = [.int i] ∧ i.natAbs.log2 < 1920 ∧ Q (.str (toString i)) H) := one_op fun Z BH O H x v A z Q g r hf k => by
  unfold strP at hf
  split at hf
  · split at hf
    · rename_i hl
      cases hf
      cases r
      exact ⟨_, rfl, hl, tell g (fun _ _ => .str _) k⟩
    · cases hf
  · cases hf
def max2P : PV → PV → Option PV
  | .int i, .int j => some (.int (if j > i then j else i))
  | _, _ => none
def min2P : PV → PV → Option PV
  | .int i, .int j => some (.int (if j < i then j else i))
  | _, _ => none
theorem ok_max2 : OkF K TB (f2 max2P) (fun xs H Q => ∃ i j, xs = [.int i, .int j] ∧ Q (.int (if j > i then j else i)) H) := two_op fun Z BH O H x y v w A B z Q g r1 r2 hf k => by
  unfold max2P at hf
  split at hf
  · cases hf
    cases r1
    cases r2
    exact ⟨_, _, rfl, tell g (fun _ _ => .int _) k⟩
  · cases hf
theorem ok_min2 : OkF K TB (f2 min2P) (fun xs H Q => ∃ i j, xs = [.int i, .int j] ∧ Q (.int (if j < i then j else i)) H) := two_op fun Z BH O H x y v w A B z Q g r1 r2 hf k => by
  unfold min2P at hf
  split at hf
  · cases hf
    cases r1
    cases r2
    exact ⟨_, _, rfl, tell g (fun _ _ => .int _) k⟩
  · cases hf
def mulS : PV → PV → Option PV
  | .str z, .int n => if z.length ≤ 1000 ∧ 0 ≤ n ∧ n ≤ 1000 then some (.str (Txt.mul z n)) else none
  | _, _ => none
theorem ok_mulS : Ok2F K TB mulS (fun x y H Q => ∃ (z : Str) (n : Int), x = .str z ∧ y = .int n ∧ MulOk z n ∧ Q (.str (Txt.mul z n)) H) := fun Z BH O H x y v w A B z Q g r1 r2 hf k => by
  unfold mulS at hf
  split at hf
  · split at hf
    · rename_i hl
      cases hf
      cases r1
      cases r2
      exact ⟨_, _, rfl, rfl, mulOk hl.1 hl.2.1 hl.2.2, tell g (fun _ _ => .str _) k⟩
    · cases hf
  · cases hf
def mulL : PV → PV → Option PV
  | .lst _ xs, .int n => if PV.frees xs ∧ n ≤ 1000 ∧ xs.length ≤ 1000 ∧ -1000 ≤ n then some (.lst true (List.replicate n.toNat xs).flatten) else none
  | _, _ => none
theorem frees_app {xs ys : List PV} (h1 : PV.frees xs = true) (h2 : PV.frees ys = true) : PV.frees (xs ++ ys) = true := by
  induction xs with
  | nil => exact h2
  | cons x xs ih =>
    simp only [PV.frees, Bool.and_eq_true, List.cons_append] at h1 ⊢
    exact ⟨h1.1, ih h1.2⟩
theorem reps_rep {xs : List PV} {vs : List V} (r : Reps K Z H xs vs []) : ∀ n : Nat, Reps K Z H (List.replicate n xs).flatten (List.replicate n vs).flatten []
  | 0 => .nil
  | n + 1 => by
    rw [List.replicate_succ, List.replicate_succ, List.flatten_cons, List.flatten_cons]
    exact r.app (reps_rep r n)
theorem ok_mulL : Ok2F K TB mulL rRep := fun Z BH O H x y v w A B z Q g r1 r2 hf k => by
  unfold mulL at hf
  split at hf
  · rename_i o xs n
    split at hf
    · rename_i hl
      cases hf
      cases r2
      obtain ⟨a, vs, C, rfl, e, t⟩ := lst_at g.le r1
      have t := t.free0 hl.1
      have lv := t.length
      have small : vs.length * n.toNat ≤ 1000 * 1000 := Nat.mul_le_mul (by omega) (by omega)
      refine ⟨a, n, vs, rfl, rfl, e, by omega, by omega, by rw [sizeLine_eq]; omega, fun p hp => ?_⟩
      exact k (.ref p) _ _ [p] (New.lst g hp) (.lstO upd_same ((reps_rep t n.toNat).mono .refl fun a ha => by cases ha))
    · cases hf
  · cases hf
def mulP : PV → PV → Option PV := orF mulI (orF mulS mulL)
theorem op_mulP {X : Cx} : OpR X (binaryOp .Mult) (fun x y H Q => rI CMul (fun i j => .int (i * j)) x y H Q ∨ ((∃ (z : Str) (n : Int), x = .str z ∧ y = .int n ∧ MulOk z n ∧ Q (.str (Txt.mul z n)) H) ∨ rRep x y H Q)) := op_mul.or (op_mul_str.or op_rep)
theorem ok_mulP : Ok2F K TB mulP (fun x y H Q => rI CMul (fun i j => .int (i * j)) x y H Q ∨ ((∃ (z : Str) (n : Int), x = .str z ∧ y = .int n ∧ MulOk z n ∧ Q (.str (Txt.mul z n)) H) ∨ rRep x y H Q)) := ok_mulI.or (ok_mulS.or ok_mulL)
/-! ### is True -/
def isB : PV → PV → Option Bool
  | .bl a, .bl b => some (decide (a = b))
  | _, _ => none
theorem ok_isB : Ok2F K TB (lift2 isB id) rIsB := fun Z BH O H x y v w A B z Q g r1 r2 hf k => by
  unfold lift2 at hf
  split at hf
  · rename_i b hb
    cases hf
    unfold isB at hb
    split at hb
    · cases hb
      cases r1
      cases r2
      exact ⟨_, _, rfl, rfl, tell g (fun _ _ => .bl _) k⟩
    · cases hb
  · cases hf
/-! ### list(..), tuple(..), sorted(..) -/
def listP : PV → Option PV := fun x => match seqP x with
  | some xs => if PV.frees xs then some (.lst true xs) else none
  | none => none
theorem ok_list : OkF K TB (f1 listP) (fun xs H Q => ∃ p ys, xs = [.ref p] ∧ (SqL K H p ys ∨ SqT K H p ys) ∧ ∀ l, H l = none → Q (.ref l) (upd H l (.lst ys))) := one_op fun Z BH O H x v A z Q g r hf k => by
  unfold listP at hf
  split at hf
  · rename_i xs hx
    split at hf
    · rename_i hfr
      cases hf
      obtain ⟨a, vs, C, rfl, sq, t⟩ := seq_at g.le r hx
      refine ⟨a, vs, rfl, sq, fun p hp => ?_⟩
      exact k (.ref p) _ _ [p] (New.lst g hp) (.lstO upd_same ((t.free0 hfr).mono .refl fun a ha => by cases ha))
    · cases hf
  · cases hf
def tupleP : PV → Option PV := fun x => match seqP x with
  | some xs => if PV.frees xs then some (.tup xs) else none
  | none => none
theorem ok_tuple : OkF K TB (f1 tupleP) (fun xs H Q => ∃ p ys, xs = [.ref p] ∧ ((SqL K H p ys ∧ ∀ l, H l = none → Q (.ref l) (upd H l (.tup ys))) ∨ (SqT K H p ys ∧ Q (.ref p) H))) := one_op fun Z BH O H x v A z Q g r hf k => by
  unfold tupleP at hf
  split at hf
  · rename_i xs hx
    split at hf
    · rename_i hfr
      cases hf
      cases r with
      | tup e t =>
        cases hx
        exact ⟨_, _, rfl, .inr ⟨g.le.sqT e, tellF g (.tup e (t.free0 hfr)) k⟩⟩
      | lstF e t =>
        cases hx
        rename_i _ vs
        refine ⟨_, _, rfl, .inl ⟨SqL.of (g.le _ _ e), fun p hp => ?_⟩⟩
        have n := New.tup (TB := TB) (o := .tup vs) g hp
        exact k (.ref p) _ _ [] n (.tup (SqT.of upd_same) ((t.free0 hfr).mono n.z fun a ha => by cases ha))
      | rol e t =>
        cases hx
        rename_i _ vs
        refine ⟨_, _, rfl, .inl ⟨g.le.sqL e, fun p hp => ?_⟩⟩
        have n := New.tup (TB := TB) (o := .tup vs) g hp
        exact k (.ref p) _ _ [] n (.tup (SqT.of upd_same) ((t.free0 hfr).mono n.z fun a ha => by cases ha))
      | lstO e t =>
        cases hx
        rename_i vs _
        refine ⟨_, _, rfl, .inl ⟨SqL.of e, fun p hp => ?_⟩⟩
        have n := New.tup (TB := TB) (o := .tup vs) g hp
        exact k (.ref p) _ _ [] n (.tup (SqT.of upd_same) ((t.free0 hfr).mono n.z fun a ha => by cases ha))
      | _ => cases hx
    · cases hf
  · cases hf
/-! sorting texts -/
def leT (x y : Str) : Bool := !ltCps y.cps.toList x.cps.toList
def insT (x : Str) : List Str → List Str
  | [] => [x]
  | y :: ys => if leT x y then x :: y :: ys else y :: insT x ys
def sortT : List Str → List Str
  | [] => []
  | x :: xs => insT x (sortT xs)
/-! reversed copies -/
def revLP : PV → Option PV
  | .lst _ xs => if PV.frees xs then some (.lst true xs.reverse) else none
  | _ => none
theorem reps_rev {xs : List PV} {vs : List V} (r : Reps K Z H xs vs []) : Reps K Z H xs.reverse vs.reverse [] := by
  induction xs generalizing vs with
  | nil => generalize hA : ([] : List Addr) = A at r; cases r; exact .nil
  | cons x xs ih =>
    generalize hA : ([] : List Addr) = A at r
    cases r with
    | cons h t =>
      obtain ⟨rfl, rfl⟩ := List.append_eq_nil_iff.mp hA.symm
      rw [List.reverse_cons, List.reverse_cons]
      exact (ih t).snoc h
theorem se_revL {X : Cx} {e : Expr} {o : Op} {k : Nat} {p1 p2 p3 pos : Pos} (hK : X.K = K) (he : PE X e (tOpd K TB mg W o)) : PE X (.Subscript e (.Slice none none (some (.UnaryOp .USub (.Constant (.int 1) k p1) p2)) p3) pos) (tE K TB mg W (eOp (f1 revLP) [o])) := by
  subst hK
  refine conv (pe_revL he) fun σ H Q q => ?_
  refine opsF (r := r1L fun x H Q => ∃ a xs, x = .ref a ∧ SqL X.K H a xs ∧ ∀ p, H p = none → Q (.ref p) (upd H p (.lst xs.reverse))) (Ok1F.ok fun Z BH O H x v A z Q g r hf k => ?_) q
  unfold revLP at hf
  split at hf
  · split at hf
    · rename_i hfr
      cases hf
      obtain ⟨a, vs, C, rfl, e, t⟩ := lst_at g.le r
      refine ⟨a, vs, rfl, SqL.of e, fun p hp => ?_⟩
      exact k (.ref p) _ _ [p] (New.lst g hp) (.lstO upd_same ((reps_rev (t.free0 hfr)).mono .refl fun a ha => by cases ha))
    · cases hf
  · cases hf
/-! ### chains of two comparisons: a < b < c -/
def eChain (f g : PV → PV → Option PV) (a b c : M PV) : M PV := fun env => match a env with
  | .ok x e => match b e with
    | .ok y e => match f x y with
      | some (.bl true) => match c e with
        | .ok z e => match g y z with
          | some w => .ok w e
          | none => .bad
        | .exc c xs e => .exc c xs e
        | .bad => .bad
      | some (.bl false) => .ok (.bl false) e
      | _ => .bad
    | .exc c xs e => .exc c xs e
    | .bad => .bad
  | .exc c xs e => .exc c xs e
  | .bad => .bad
/-- by values that are told at once -/
def Ok2S (f : PV → PV → Option PV) (r : R2) : Prop := ∀ (K : PySem.W.Frag) (Z H : Hp) (x y z : PV) (v w : V) (A B : List Addr) (Q : VK), Le Z H → Rep K Z H x v A → Rep K Z H y w B → f x y = some z → (∀ u, (∀ Z H, Rep K Z H z u []) → Q u H) → r v w H Q
theorem ok2S_I {C : Int → Int → Bool} {g : Int → Int → Bool} (hC : ∀ i j, C i j = true) : Ok2S (iOp C fun i j => .bl (g i j)) (rI0 fun i j => .bl (g i j)) := by
  intro K Z H x y z v w A B Q lz r1 r2 hf k
  unfold iOp at hf
  split at hf
  · rename_i i j
    rw [if_pos (hC i j)] at hf
    cases hf
    cases r1
    cases r2
    exact ⟨i, j, rfl, rfl, k _ fun _ _ => .bl _⟩
  · cases hf
theorem ok2S_leS : Ok2S leS (fun x y H Q => ∃ i j, x = .str i ∧ y = .str j ∧ Q (.bl (!decide (j.cps.toList < i.cps.toList))) H) := by
  intro K Z H x y z v w A B Q lz r1 r2 hf k
  unfold leS at hf
  split at hf
  · cases hf
    cases r1
    cases r2
    exact ⟨_, _, rfl, rfl, k _ fun _ _ => .bl _⟩
  · cases hf
theorem Ok2S.or {f g : PV → PV → Option PV} {r r' : R2} (h : Ok2S f r) (h' : Ok2S g r') : Ok2S (orF f g) (fun x y H Q => r x y H Q ∨ r' x y H Q) := by
  intro K Z H x y z v w A B Q lz r1 r2 hf k
  unfold orF at hf
  split at hf
  · rename_i z' e
    cases hf
    exact .inl (h K Z H x y _ v w A B Q lz r1 r2 e k)
  · exact .inr (h' K Z H x y z v w A B Q lz r1 r2 hf k)
def leP : PV → PV → Option PV := orF leI leS
theorem op_leP {X : Cx} : OpR X (compareOp .LtE) (fun x y H Q => rI0 (fun i j => .bl (decide (i ≤ j))) x y H Q ∨ ∃ i j, x = .str i ∧ y = .str j ∧ Q (.bl (!decide (j.cps.toList < i.cps.toList))) H) := op_le.or op_le_str
theorem ok2S_leP : Ok2S leP (fun x y H Q => rI0 (fun i j => .bl (decide (i ≤ j))) x y H Q ∨ ∃ i j, x = .str i ∧ y = .str j ∧ Q (.bl (!decide (j.cps.toList < i.cps.toList))) H) := (ok2S_I fun _ _ => rfl).or ok2S_leS
theorem ok_leP : Ok2F K TB leP (fun x y H Q => rI0 (fun i j => .bl (decide (i ≤ j))) x y H Q ∨ ∃ i j, x = .str i ∧ y = .str j ∧ Q (.bl (!decide (j.cps.toList < i.cps.toList))) H) := ok_leI.or ok_leS
/-- the last temporary's data -/
theorem Sim.top {x : PV} {v : V} (s : Sim K TB F env σ (tm ++ [(x, v)]) Z H O) : ∃ A, Rep K Z H x v A := by
  obtain ⟨P1, P2, eP, t1, t2⟩ := s.splitTm
  have r := tm_reps t2
  generalize hX : ([(x, v)] : Tm).map (·.1) = X at r
  generalize hV : ([(x, v)] : Tm).map (·.2) = Y at r
  cases r with
  | nil => cases hX
  | cons hr ht => cases hX; cases hV; exact ⟨_, hr⟩
theorem tE_chain {f g : PV → PV → Option PV} {r r' : R2} {a b c : M PV} (hf : Ok2S f r) (hg : Ok2S g r') (h : tE K TB mg W (eChain f g a b c) σ H Q) : tChain r r' (tE K TB mg W a) (tE K TB mg W b) (tE K TB mg W c) σ H Q := by
  obtain ⟨F, env, tm, Z, O, s, p⟩ := h
  refine ⟨F, env, tm, Z, O, s, ?_⟩
  unfold eChain at p
  cases qa : a env with
  | exc c xs e => rw [qa] at p; exact p
  | bad => rw [qa] at p; exact p
  | ok x e1 =>
    rw [qa] at p
    intro v H1 Z1 O1 st1 s1
    refine ⟨F, e1, _, Z1, O1, s1, ?_⟩
    simp only at p
    cases qb : b e1 with
    | exc c xs e => rw [qb] at p; exact (PostX.later p st1).drop
    | bad => rw [qb] at p; exact p
    | ok y e2 =>
      rw [qb] at p
      intro w H2 Z2 O2 st2 s2
      simp only at p
      have s2' : Sim K TB F e2 σ (tm ++ ([(x, v)] ++ [(y, w)])) Z2 H2 O2 := by rw [← List.append_assoc]; exact s2
      obtain ⟨B, rb⟩ := s2.top
      obtain ⟨A, ra⟩ : ∃ A, Rep K Z2 H2 x v A := by
        obtain ⟨P1, P2, eP, t1, t2⟩ := s2'.splitTm
        have r := tm_reps t2
        generalize hX : ([(x, v)] ++ [(y, w)] : Tm).map (·.1) = X at r
        generalize hV : ([(x, v)] ++ [(y, w)] : Tm).map (·.2) = Y at r
        cases r with
        | nil => cases hX
        | cons hr ht => cases hX; cases hV; exact ⟨_, hr⟩
      split at p
      · rename_i hfx
        refine hf K Z2 H2 x y _ v w A B _ s2.good.le ra rb hfx fun u hu => ?_
        have eu : u = .bl true := by
          have q := hu Z2 H2
          cases q
          rfl
        refine ⟨true, eu, ?_⟩
        simp only [if_true]
        refine ⟨F, e2, _, Z2, O2, s2, ?_⟩
        cases qc : c e2 with
        | exc c xs e =>
          rw [qc] at p
          have q := PostX.later p (st1.trans st2)
          have q2 := q.drop (ts := [(x, v)] ++ [(y, w)])
          rw [← List.append_assoc] at q2
          exact q2
        | bad => rw [qc] at p; exact p
        | ok z e3 =>
          rw [qc] at p
          intro t H3 Z3 O3 st3 s3
          obtain ⟨C, rc⟩ := s3.top
          have s3' : Sim K TB F e3 σ ((tm ++ [(x, v)]) ++ ([(y, w)] ++ [(z, t)])) Z3 H3 O3 := by
            have q := s3
            simp only [List.append_assoc] at q ⊢
            exact q
          obtain ⟨B', rb'⟩ : ∃ A, Rep K Z3 H3 y w A := by
            obtain ⟨P1, P2, eP, t1, t2⟩ := s3'.splitTm
            have r := tm_reps t2
            generalize hX : ([(y, w)] ++ [(z, t)] : Tm).map (·.1) = X at r
            generalize hV : ([(y, w)] ++ [(z, t)] : Tm).map (·.2) = Y at r
            cases r with
            | nil => cases hX
            | cons hr ht => cases hX; cases hV; exact ⟨_, hr⟩
          simp only at p
          split at p
          · rename_i w' hgx
            refine hg K Z3 H3 y z _ w t B' C _ s3.good.le rb' rc hgx fun u hu => ?_
            have s3'' : Sim K TB F e3 σ (tm ++ ([(x, v)] ++ ([(y, w)] ++ [(z, t)]))) Z3 H3 O3 := by
              have q := s3
              simp only [List.append_assoc] at q ⊢
              exact q
            obtain ⟨O4, st4, s4⟩ := s3''.dropTm
            exact p u H3 Z3 O4 (((st1.trans st2).trans st3).trans st4) (s4.push (hu _ _))
          · exact p.elim
      · rename_i hfx
        refine hf K Z2 H2 x y _ v w A B _ s2.good.le ra rb hfx fun u hu => ?_
        have eu : u = .bl false := by
          have q := hu Z2 H2
          cases q
          rfl
        refine ⟨false, eu, ?_⟩
        rw [if_neg Bool.false_ne_true]
        obtain ⟨O4, st4, s4⟩ := s2'.dropTm
        exact p (.bl false) H2 Z2 O4 ((st1.trans st2).trans st4) (s4.push (.bl _))
      · exact p.elim
section
variable {X : Cx} {pos : Pos} {a b c : Expr} {ma mb mc : M PV} {op op' : CmpOp} {r r' : R2} {f g : PV → PV → Option PV}
theorem se_chain (ho : OpR X (compareOp op) r) (ho' : OpR X (compareOp op') r') (hf : Ok2S f r) (hg : Ok2S g r') (ha : PE X a (tE K TB mg W ma)) (hb : PE X b (tE K TB mg W mb)) (hc : PE X c (tE K TB mg W mc))
    (hm : lastMarks [op, op'] [b, c] = false := by with_unfolding_all rfl) : PE X (.Compare a [op, op'] [b, c] pos) (tE K TB mg W (eChain f g ma mb mc)) := conv (pe_chain ho ho' ha hb hc hm) fun _ _ _ q => tE_chain hf hg q
theorem st_chain (ho : OpR X (compareOp op) r) (ho' : OpR X (compareOp op') r') (hf : Ok2S f r) (hg : Ok2S g r') (ha : PE X a (tE K TB mg W ma)) (hb : PE X b (tE K TB mg W mb)) (hc : PE X c (tE K TB mg W mc))
    (hm : lastMarks [op, op'] [b, c] = false := by with_unfolding_all rfl) : PT X (.Compare a [op, op'] [b, c] pos) (tT K TB mg W (cOf (eChain f g ma mb mc))) := convT (pt_chain ho ho' ha hb hc hm) fun _ _ _ q => tE_chain hf hg (tT_of q)
end
/-! ### more methods of lists -/
def fInsert : PV → List PV → Option (PV × PV)
  | .lst true xs, [.int i, y] => if xs.length < CAP ∧ 0 ≤ i ∧ i < 2 ^ 63 then some (.lst true (xs.take i.toNat ++ [y] ++ xs.drop i.toNat), .non) else none
  | _, _ => none
theorem reps_split {xs : List PV} {vs : List V} {A : List Addr} (r : Reps K Z H xs vs A) (n : Nat) : ∃ A1 A2, A = A1 ++ A2 ∧ Reps K Z H (xs.take n) (vs.take n) A1 ∧ Reps K Z H (xs.drop n) (vs.drop n) A2 := by
  induction n generalizing xs vs A with
  | zero => exact ⟨[], A, rfl, .nil, r⟩
  | succ n ih =>
    cases r with
    | nil => exact ⟨[], [], rfl, .nil, .nil⟩
    | cons h t =>
      obtain ⟨A1, A2, rfl, r1, r2⟩ := ih t
      exact ⟨_, A2, (List.append_assoc ..).symm, .cons h r1, r2⟩
theorem ok_insert : OkM K fInsert (fun x vs H Q => ∃ (l : Addr) (xs : List V) (i : Int) (y : V), x = .ref l ∧ vs = [.int i, y] ∧ H l = some (.lst xs) ∧ xs.length < sizeLine ∧ 0 ≤ i ∧ i < 2 ^ 63 ∧
    Q .non (upd H l (.lst (xs.take i.toNat ++ [y] ++ xs.drop i.toNat)))) := by
  intro Z H x x' y xs v vs A At Q lz r rs nd hf k
  unfold fInsert at hf
  split at hf
  · rename_i l i y0
    split at hf
    · rename_i hl
      obtain ⟨rfl, rfl⟩ := Prod.mk.inj (Option.some.inj hf)
      cases r with
      | lstO e r =>
        rename_i a ws A0
        cases rs with
        | cons h t =>
          cases h
          cases t with
          | cons h2 t2 =>
            cases t2
            rename_i u B
            obtain ⟨A1, A2, rfl, r1, r2⟩ := reps_split r i.toNat
            have rr := (r1.snoc h2).app r2
            have nd' : (a :: ((A1 ++ B) ++ A2)).Nodup := by
              simp only [List.nodup_append, List.mem_append, List.cons_append, List.nodup_cons, List.append_nil, List.nil_append] at nd ⊢
              grind
            have na : a ∉ (A1 ++ B) ++ A2 := (List.nodup_cons.mp nd').1
            refine ⟨a, ws, i, u, rfl, rfl, e, by rw [← r.length, cap_eq]; exact hl.1, hl.2.1, hl.2.2, k .non _ (a :: ((A1 ++ B) ++ A2)) (.lstO upd_same (rr.mono .refl fun b hb o q => upd_keep q fun z => na (z ▸ hb))) (fun b hb => ?_) nd' (fun b o q n => upd_keep q fun z => n (by rw [z]; exact List.mem_cons_self ..)) (fun b q => upd_dom q) .non⟩
            simp only [List.mem_cons, List.mem_append, List.append_nil, List.nil_append] at hb ⊢
            rcases hb with h | (h | h) | h
            · exact .inl (.inl h)
            · exact .inl (.inr (.inl h))
            · exact .inr h
            · exact .inl (.inr (.inr h))
    · cases hf
  · cases hf
def fReverse : PV → List PV → Option (PV × PV)
  | .lst true xs, [] => if PV.frees xs then some (.lst true xs.reverse, .non) else none
  | _, _ => none
theorem ok_reverse : OkM K fReverse rReverse := by
  intro Z H x x' y xs v vs A At Q lz r rs nd hf k
  unfold fReverse at hf
  split at hf
  · split at hf
    · rename_i hfr
      obtain ⟨rfl, rfl⟩ := Prod.mk.inj (Option.some.inj hf)
      cases rs
      cases r with
      | lstO e r =>
        rename_i a ws A0
        have r := r.free0 hfr
        refine ⟨a, ws, rfl, rfl, e, k .non _ [a] (.lstO upd_same ((reps_rev r).mono .refl fun b hb => by cases hb)) (fun b hb => ?_) (by simp) (fun b o q n => upd_keep q fun z => n (by rw [z]; exact List.mem_cons_self ..)) (fun b q => upd_dom q) .non⟩
        rw [List.mem_singleton.mp hb]
        exact .inl (List.mem_cons_self ..)
    · cases hf
  · cases hf
def fClear : PV → List PV → Option (PV × PV)
  | .lst true _, [] => some (.lst true [], .non)
  | _, _ => none
theorem ok_clear : OkM K fClear rClear := by
  intro Z H x x' y xs v vs A At Q lz r rs nd hf k
  unfold fClear at hf
  split at hf
  · obtain ⟨rfl, rfl⟩ := Prod.mk.inj (Option.some.inj hf)
    cases rs
    cases r with
    | lstO e r =>
      rename_i a ws A0
      refine ⟨a, ws, rfl, rfl, e, k .non _ [a] (.lstO upd_same .nil) (fun b hb => ?_) (by simp) (fun b o q n => upd_keep q fun z => n (by rw [z]; exact List.mem_cons_self ..)) (fun b q => upd_dom q) .non⟩
      rw [List.mem_singleton.mp hb]
      exact .inl (List.mem_cons_self ..)
  · cases hf
def fExtend : PV → List PV → Option (PV × PV)
  | .lst true xs, [.lst _ ys] => if xs.length + ys.length ≤ CAP then some (.lst true (xs ++ ys), .non) else none
  | _, _ => none
theorem ok_extend : OkM K fExtend rExtend := by
  intro Z H x x' y xs v vs A At Q lz r rs nd hf k
  unfold fExtend at hf
  split at hf
  · rename_i l o ys
    split at hf
    · rename_i hl
      obtain ⟨rfl, rfl⟩ := Prod.mk.inj (Option.some.inj hf)
      cases r with
      | lstO e r =>
        rename_i a ws A0
        cases rs with
        | cons h t =>
          cases t
          rw [List.append_nil] at nd k
          cases h with
          | lstO e2 r2 =>
            rename_i b us B0
            have nd' : (a :: (A0 ++ B0)).Nodup := by
              simp only [List.nodup_append, List.mem_append, List.cons_append, List.nodup_cons, List.mem_cons] at nd ⊢
              grind
            have na := (List.nodup_cons.mp nd').1
            refine ⟨a, b, ws, us, rfl, rfl, e, e2, by rw [← r.length, ← r2.length, cap_eq]; exact hl, k .non _ (a :: (A0 ++ B0)) (.lstO upd_same ((r.app r2).mono .refl fun c hc o q => upd_keep q fun z => na (z ▸ hc))) (fun c hc => ?_) nd' (fun c o q n => upd_keep q fun z => n (by rw [z]; exact List.mem_cons_self ..)) (fun c q => upd_dom q) .non⟩
            simp only [List.mem_cons, List.mem_append] at hc ⊢
            rcases hc with h | h | h
            · exact .inl (.inl h)
            · exact .inl (.inr h)
            · exact .inr (.inr h)
          | lstF e2 r2 =>
            rename_i b us
            rw [List.append_nil] at nd
            have na := (List.nodup_cons.mp nd).1
            have r3 := r.app r2
            rw [List.append_nil] at r3
            refine ⟨a, b, ws, us, rfl, rfl, e, lz _ _ e2, by rw [← r.length, ← r2.length, cap_eq]; exact hl, k .non _ (a :: A0) (.lstO upd_same (r3.mono .refl fun c hc o q => upd_keep q fun z => na (z ▸ hc))) (fun c hc => .inl hc) nd (fun c o q n => upd_keep q fun z => n (by rw [z]; exact List.mem_cons_self ..)) (fun c q => upd_dom q) .non⟩
    · cases hf
  · cases hf
/-! ### written dicts, the empty one -/
def eDict0 : M PV := fun env => .ok (.dct true [] []) env
theorem se_dict0 {X : Cx} {pos : Pos} : PE X (.Dict [] [] pos) (tE K TB mg W eDict0) := conv pe_dnewK fun σ H Q q => by
  obtain ⟨F, env, tm, Z, O, s, p⟩ := q
  intro a ha
  have n := New.lst (TB := TB) (o := .dK []) s.good ha
  exact p (.ref a) _ Z (O ++ [a]) n.step (n.sim s (.dctO (vs := []) upd_same rfl .nil))
/-! ### dicts of the module's top, asked by a text -/
def kdP (tbl : List (Str × PV)) : PV → Option PV
  | .str z => tbl.lookup z
  | _ => none
theorem se_kd {X : Cx} {pos npos : Pos} {b : Expr} {ob : Op} {x : Str} {P : Addr} {tbl : List (Str × PV)} (hK : X.K = K) (hg : Gl X x) (hm : X.mg x = some (.ref P)) (ht : ∀ z y, tbl.lookup z = some y → ∃ v, KDct K X.w P z v ∧ ∀ Z H, Rep K Z H y v []) (hb : PE X b (tOpd K TB mg W ob)) (hs : PlainIx b) (hd : (x == ("__debug__" : Str)) = false := by decide) :
    PE X (.Subscript (.Name x npos) b pos) (tE K TB mg W (eOp (f1 (kdP tbl)) [ob])) := by
  subst hK
  refine conv (pe_ix ix_kdict (pe_glob (v := .ref P) hg hm rfl hd) hb hs) fun σ H Q q => ?_
  refine opsF (r := r1L fun y H Q => rIxD X.K X.w (.ref P) y H Q) (Ok1F.ok fun Z BH O H y v A z Q g r hf k => ?_) q
  unfold kdP at hf
  split at hf
  · cases r
    obtain ⟨v, hv, hr⟩ := ht _ _ hf
    exact ⟨P, _, v, rfl, rfl, hv, tellF g (hr _ _) k⟩
  · cases hf
end Ev

set_option Elab.async false
set_option linter.all false
set_option maxRecDepth 100000
set_option maxHeartbeats 2000000
/-! Facts by equations, for the printed terms. -/
namespace Ev
open PySem PySem.Spec PyProof.Rows L2 GxR Gx Gq
variable {K : PySem.W.Frag} {mg : Str → Option Value} {TB : List Addr} {W : WX}
section
variable {X : Cx} {N : List Str} {sc : Scope} {x : Str} {i : Nat}
theorem nix (h : X.N = N) (q : N[i]? = some x) : X.N[i]? = some x := by rw [h]; exact q
theorem nnd (h : X.N = N) (q : N.Nodup) : X.N.Nodup := by rw [h]; exact q
def visC (sc : Scope) (x : Str) : Bool := match sc.names.lookup x with
  | some .local => true
  | some .cell => true
  | some .free => true
  | _ => false
def locC (sc : Scope) (x : Str) : Bool := match sc.names.lookup x with
  | some .local => true
  | some .cell => true
  | _ => false
theorem vis (h : X.env.scope = sc) (q : visC sc x = true) : Vis X.env.scope x := by
  rw [h]
  unfold visC at q
  split at q
  · exact .inl (by assumption)
  · exact .inr (.inl (by assumption))
  · exact .inr (.inr (by assumption))
  · cases q
theorem loc (h : X.env.scope = sc) (q : locC sc x = true) : Loc X.env.scope x := by
  rw [h]
  unfold locC at q
  split at q
  · exact .inl (by assumption)
  · exact .inr (by assumption)
  · cases q
theorem lcl (h : X.env.scope = sc) (q : sc.names.lookup x = some .local) : X.env.scope.names.lookup x = some .local := by rw [h]; exact q
theorem gls (h : X.env.scope = sc) (q : sc.names.lookup x = some .globalImplicit) : Gl X x := by
  unfold Gl Env.kindOf
  rw [h]
  exact q
theorem bok {scope : Scope} {own : List (Str × Nat)} (hN : X.N = N) (h : X.env.scope = sc) (q : blkC N sc scope own = true) : BlkOk X.N X.env.scope scope own := by
  rw [hN, h]
  exact blkOk_by q
end
/-- a constant of the module, on data -/
structure GlP (K : PySem.W.Frag) (mg : Str → Option Value) (x : Str) (a : PV) : Prop where
  ex : ∃ v u, mg x = some u ∧ RelV v u ∧ ∀ Z H, Rep K Z H a v []
theorem se_gl {X : Cx} {x : Str} {a : PV} {pos : Pos} (g : GlP X.K X.mg x a) (hg : Gl X x) (hd : (x == ("__debug__" : Str)) = false := by decide) : PE X (.Name x pos) (tE X.K TB X.mg W (eC a)) := by
  obtain ⟨v, u, hm, r, ra⟩ := g.ex
  exact se_glob hg hm r ra hd
theorem GlP.int {x : Str} {i : Int} {t : Tok} (h : mg x = some (.int i t)) : GlP K mg x (.int i) := ⟨.int i, _, h, ⟨_, rfl⟩, fun _ _ => .int _⟩
theorem GlP.str {x : Str} {z : Str} {t : Tok} (h : mg x = some (.str z t)) : GlP K mg x (.str z) := ⟨.str z, _, h, ⟨_, rfl⟩, fun _ _ => .str _⟩
/-- a dict of the module, asked by texts -/
structure KdP (K : PySem.W.Frag) (w : World) (mg : Str → Option Value) (x : Str) (tbl : List (Str × PV)) : Prop where
  ex : ∃ P, mg x = some (.ref P) ∧ ∀ z y, tbl.lookup z = some y → ∃ v, KDct K w P z v ∧ ∀ Z H, Rep K Z H y v []
theorem se_kdP {X : Cx} {pos npos : Pos} {b : Expr} {ob : Op} {x : Str} {tbl : List (Str × PV)} (g : KdP X.K X.w X.mg x tbl) (hg : Gl X x) (hb : PE X b (tOpd X.K TB X.mg W ob)) (hs : PlainIx b) (hd : (x == ("__debug__" : Str)) = false := by decide) :
    PE X (.Subscript (.Name x npos) b pos) (tE X.K TB X.mg W (eOp (f1 (kdP tbl)) [ob])) := by
  obtain ⟨P, hm, ht⟩ := g.ex
  exact se_kd rfl hg hm ht hb hs hd
theorem hu64 {k : Nat} {A : Around} (r : Room k A) : A.units + 64 < cLine := by
  have := r.un
  omega
/-- in: in a sequence, a sign in a text -/
def inP (neg : Bool) : PV → PV → Option PV := orF (inSeqP neg) (inSgn neg)
theorem ok_inP : Ok2F K TB (inP false) (fun x y H Q => rIn K false x y H Q ∨ ∃ (c : Nat) (z : Str), x = .str ⟨#[c]⟩ ∧ y = .str z ∧ Q (.bl (decide (c ∈ z.cps.toList))) H) := ok_inSeq.or ok_inSgn
theorem ok_niP : Ok2F K TB (inP true) (fun x y H Q => rIn K true x y H Q ∨ ∃ (c : Nat) (z : Str), x = .str ⟨#[c]⟩ ∧ y = .str z ∧ Q (.bl (!decide (c ∈ z.cps.toList))) H) := ok_inSeq.or ok_notSgn
theorem op_inP {X : Cx} : OpR X (compareOp .In) (fun x y H Q => rIn X.K false x y H Q ∨ ∃ (c : Nat) (z : Str), x = .str ⟨#[c]⟩ ∧ y = .str z ∧ Q (.bl (decide (c ∈ z.cps.toList))) H) := op_in_seq.or op_in_sign
theorem op_niP {X : Cx} : OpR X (compareOp .NotIn) (fun x y H Q => rIn X.K true x y H Q ∨ ∃ (c : Nat) (z : Str), x = .str ⟨#[c]⟩ ∧ y = .str z ∧ Q (.bl (!decide (c ∈ z.cps.toList))) H) := op_notIn_seq.or op_notIn_sign
end Ev
namespace Ev
open PySem PySem.Spec PyProof.Rows L2 GxR Gx Gq
theorem swl {X : Cx} {sc : Scope} {elt : Expr} {gs : List Comprehension} {scope : Scope} {pos py : Pos} {y : Str} {l : Nat} (h : X.env.scope = sc) (hk : sc.kind = .function) (hy : sc.names.lookup y = some .local) (hl : (py.line == pos.line) = true)
    (ha : (scope.names.any fun (n, k) => n == y && (k == .local || k == .cell)) = false) : swapsWith (.ListComp elt gs scope pos) (some (.Name y py)) l X.env = pure true := sw_true (by rw [h]; exact hk) (by rw [h]; exact hy) hl ha
/-! ### a comprehension's scope -/
theorem lookup_relabel {env : PySem.Env} {x : Str} : ∀ {names : List (Str × NameKind)}, (names.map fun (n, k) => if (k == NameKind.free && env.scope.kind == .function && env.kindOf n == some .cell) then (n, NameKind.cell) else (n, k)).lookup x =
    (names.lookup x).map fun k => if (k == NameKind.free && env.scope.kind == .function && env.kindOf x == some .cell) then NameKind.cell else k
  | [] => rfl
  | (n, k) :: r => by
    have ih := @lookup_relabel env x r
    show List.lookup x ((if (k == NameKind.free && env.scope.kind == .function && env.kindOf n == some .cell) = true then (n, NameKind.cell) else (n, k)) :: _) = _
    by_cases hx : x == n
    · have e : x = n := eq_of_beq hx
      subst e
      by_cases hc : (k == NameKind.free && env.scope.kind == .function && env.kindOf x == some .cell) = true
      · rw [if_pos hc]
        simp only [List.lookup, beq_self_eq_true, Option.map, if_pos hc]
      · rw [if_neg hc]
        simp only [List.lookup, beq_self_eq_true, Option.map, if_neg hc]
    · have hx' : (x == n) = false := by simpa using hx
      split <;> simp only [List.lookup, hx'] <;> exact ih
section
variable {X : Cx} {scope : Scope} {env : PySem.Env} {x : Str}
theorem lkR (h : X.env.scope = PySem.relabel scope env) : X.env.scope.names.lookup x = (scope.names.lookup x).map fun k => if (k == NameKind.free && env.scope.kind == .function && env.kindOf x == some .cell) then NameKind.cell else k := by
  rw [h]
  exact lookup_relabel
theorem visR (h : X.env.scope = PySem.relabel scope env) (q : visC scope x = true) : Vis X.env.scope x := by
  unfold Vis
  rw [lkR h]
  unfold visC at q
  split at q <;> rename_i e
  · rw [e]; exact .inl rfl
  · rw [e]; exact .inr (.inl rfl)
  · rw [e]
    simp only [Option.map]
    split
    · exact .inr (.inl rfl)
    · exact .inr (.inr rfl)
  · cases q
theorem locR (h : X.env.scope = PySem.relabel scope env) (q : locC scope x = true) : Loc X.env.scope x := by
  unfold L2.Loc
  rw [lkR h]
  unfold locC at q
  split at q <;> rename_i e
  · rw [e]; exact .inl rfl
  · rw [e]; exact .inr rfl
  · cases q
theorem glR (h : X.env.scope = PySem.relabel scope env) (q : scope.names.lookup x = some .globalImplicit) : Gl X x := by
  unfold Gl Env.kindOf
  rw [lkR h, q]
  rfl
end
end Ev

set_option Elab.async false
set_option linter.all false
set_option maxRecDepth 100000
set_option maxHeartbeats 2000000
/-! isinstance of one of two types; receivers that are told; places; all and any of lists; sorting texts. -/
namespace Ev
open PySem PySem.Spec PyProof.Rows L2 GxR Gx Gq
variable {K : PySem.W.Frag} {Z Z' H H' BH BH' : Hp} {TB : List Addr} {F : Fx} {env env' : Env} {σ : List (Option V)} {tm ts : Tm} {O O' : List Addr} {mg : Str → Option Value} {W : WX} {Q Q' : VK} {D : Ends} {R : It → Hp → Prop}
theorem kit_any2 {K : PySem.W.Frag} {t n m : String} (ht : t ∈ ["NoneType", "bool", "int", "str", "tuple", "list", "dict"]) (hn : n ∈ ["str", "int", "bool", "tuple", "list"]) (hm : m ∈ ["str", "int", "bool", "tuple", "list"]) :
    PySem.W.kitAny K (.type t) [.type n, .type m] = some (isTy t n || isTy t m) := by
  simp only [PySem.W.kitAny, kit_bool t ht n hn, kit_bool t ht m hm]
  cases isTy t n <;> cases isTy t m <;> rfl
theorem ty_mem {x : PV} {t : String} (h : tyP x = some t) : t ∈ ["NoneType", "bool", "int", "str", "tuple", "list", "dict"] := by
  cases x <;> first | (cases h; simp; done) | cases h
theorem ok_isiT {n m : String} (hn : n ∈ ["str", "int", "bool", "tuple", "list"]) (hm : m ∈ ["str", "int", "bool", "tuple", "list"]) :
    OkF K TB (f1 (tysP [n, m])) (fun vs H Q => match vs with | [x] => ∀ p, H p = none → rIsiT K [x, .ref p] (upd H p (.tup [.ty n, .ty m])) Q | _ => False) := by
  intro Z BH O H xs vs z Q g rs hf k
  cases rs with
  | nil => cases hf
  | cons A r1 t =>
    cases t with
    | cons B r2 t => cases hf
    | nil =>
      simp only [f1, tysP] at hf
      split at hf
      · rename_i t ht
        cases hf
        intro p hp
        have nw := New.tup (TB := TB) (o := .tup [.ty n, .ty m]) g hp
        have le2 : Le Z (upd H p (.tup [.ty n, .ty m])) := fun a o e => by rw [upd_ne (ne_of_none (g.le a o e) hp)]; exact g.le a o e
        have hk : ∀ a ∈ A, ∀ o, H a = some o → upd H p (.tup [.ty n, .ty m]) a = some o := fun a _ o e => by rw [upd_ne (ne_of_none e hp)]; exact e
        refine ⟨_, p, _, _, [.type n, .type m], _, rfl, upd_same, .cons (.ty n) (.cons (.ty m) .nil), ty_of le2 (r1.mono .refl hk) ht, kit_any2 (ty_mem ht) hn hm, ?_⟩
        have e : ([n, m].any fun m => isTy t m) = (isTy t n || isTy t m) := by simp
        rw [← e]
        exact k _ _ _ [] nw (.bl _)
      · cases hf
section
variable {X : Cx} {pos : Pos}
theorem se_isiT {a : Expr} {o : Op} {n m : Str} {ns ms : String} {p p2 p3 p4 : Pos} {kt : Nat} (hK : X.K = K) (hg : Gl X "isinstance") (hm : X.mg "isinstance" = none) (ha : PE X a (tOpd K TB mg W o))
    (hgt : Gl X n) (hmt : X.mg n = none) (hv : bootBuiltins n = some (.type ns)) (hn : ns ∈ ["str", "int", "bool", "tuple", "list"]) (hgt' : Gl X m) (hmt' : X.mg m = none) (hv' : bootBuiltins m = some (.type ms)) (hn' : ms ∈ ["str", "int", "bool", "tuple", "list"])
    (hnn : n ≠ "__name__" := by decide) (hd : (n == ("__debug__" : Str)) = false := by decide) (hnn' : m ≠ "__name__" := by decide) (hd' : (m == ("__debug__" : Str)) = false := by decide)
    (he : starEach [a, .Tuple [.Name n p2, .Name m p3] kt p4] X.env = (false, eval a X.env) :: starEach [.Tuple [.Name n p2, .Name m p3] kt p4] X.env := by rfl)
    (he2 : starEach [.Tuple [.Name n p2, .Name m p3] kt p4] X.env = (false, eval (.Tuple [.Name n p2, .Name m p3] kt p4) X.env) :: starEach [] X.env := by rfl)
    (he3 : starEach [.Name n p2, .Name m p3] X.env = (false, eval (.Name n p2) X.env) :: starEach [.Name m p3] X.env := by rfl)
    (he4 : starEach [.Name m p3] X.env = (false, eval (.Name m p3) X.env) :: starEach [] X.env := by rfl)
    (hpl : (backTo pos (starEach [.Tuple [.Name n p2, .Name m p3] kt p4] X.env)).any (·.1) = false := by rfl) :
    PE X (.Call (.Name "isinstance" p) [a, .Tuple [.Name n p2, .Name m p3] kt p4] [] pos) (tE K TB mg W (eOp (f1 (tysP [ns, ms])) [o])) := by
  subst hK
  refine conv (pe_callB call_isiT hg hm (by decide +kernel) (pa_cons ha (pa_cons (pe_tup (pa_cons (pe_bltn (v := .ty ns) hgt hmt hv rfl hnn hd) (pa_cons (pe_bltn (v := .ty ms) hgt' hmt' hv' rfl hnn' hd') pa_nil he4) he3)) pa_nil he2) he) (by decide) (by decide) he hpl) fun σ H Q q => ?_
  have q2 := opsF (ok_isiT hn hn') q
  refine tOpd_mono q2 fun v H1 q3 => ?_
  exact ⟨by rw [sizeLine_eq]; show 2 ≤ 16777216; decide, q3⟩
end
/-! ### methods of a receiver that is told -/
def eTy (ty : PV → Bool) (m : M PV) : M PV := fun env => match m env with
  | .ok x e => if ty x then .ok x e else .bad
  | .exc c xs e => .exc c xs e
  | .bad => .bad
theorem tE_ty {ty : PV → Bool} {tv : V → Hp → Prop} {m : M PV} (ot : OkTy K ty tv) (h : tE K TB mg W (eTy ty m) σ H Q) : tE K TB mg W m σ H fun v H' => tv v H' ∧ Q v H' := by
  obtain ⟨F, env, tm, Z, O, s, p⟩ := h
  refine ⟨F, env, tm, Z, O, s, ?_⟩
  unfold eTy at p
  cases q : m env with
  | ok x e =>
    rw [q] at p
    simp only at p
    intro v H' Z' O' st sm
    split at p
    · rename_i ht
      obtain ⟨A, r⟩ := sm.top
      exact ⟨ot Z' H' x v A sm.good.le r ht, p v H' Z' O' st sm⟩
    · exact p.elim
  | exc c xs e => rw [q] at p; exact p
  | bad => rw [q] at p; exact p
section
variable {X : Cx} {pos : Pos}
theorem se_bm {name : Str} {T id : String} {r : V → List V → Hp → VK → Prop} {f : List PV → Option PV} {ty : PV → Bool} {o e : Expr} {es : List Expr} {m : M PV} {ops : List Op} {apos cpos : Pos} (hK : X.K = K)
    (pa : PlainAttrs T) (slot : Slot T name id) (hty : typeOf (.builtin id) = pure (.type "method_descriptor")) (hm : MtR X id r) (ot : OkTy K ty (tyV K T)) (ok : OkF K TB f (fun vs H Q => match vs with | v :: vs => r v vs H Q | [] => False)) (ho : PE X o (tE K TB mg W m)) (ha : PA X (e :: es) (tOpds K TB mg W ops))
    (hbase : attributeBase o name X.env (eval o X.env) = eval o X.env := by rfl)
    (hfew : ((backTo cpos (starEach (e :: es) X.env)).all (fun x => !x.1) && (backToKw cpos (keywordEach [] X.env)).all (fun x => x.1.isSome)
      && decide ((e :: es).length + ([] : List Keyword).length + (if ([] : List Keyword).isEmpty then 0 else 1) < 30)) = true := by rfl)
    (hline : (apos.endLine == cpos.line) = true := by rfl) (hs : starEach (e :: es) X.env = (false, eval e X.env) :: starEach es X.env := by rfl) (hplain : (backTo cpos (starEach es X.env)).any (·.1) = false := by rfl) :
    PE X (.Call (.Attribute o name apos) (e :: es) [] cpos) (tE K TB mg W (eOp f (.m (eTy ty m) :: ops))) := by
  subst hK
  refine conv (pe_bm pa slot hty hm ho ha hbase hfew hline hs hplain) fun σ H Q q => ?_
  exact tE_ty ot (opsF ok q)
end
def isTupP : PV → Bool
  | .tup _ => true
  | _ => false
def isLstP : PV → Bool
  | .lst _ _ => true
  | _ => false
theorem ty_lst : OkTy K isLstP (tyV K "list") := by
  intro Z H x v A lz r h
  cases r with
  | lstO e r => exact .inl ⟨rfl, _, SqL.of e⟩
  | lstF e r => exact .inl ⟨rfl, _, SqL.of (lz _ _ e)⟩
  | _ => cases h
/-! ### places of texts -/
def placeT (z : Str) : List Str → Option Nat
  | [] => none
  | y :: ys => if y = z then some 0 else match placeT z ys with
    | some j => some (j + 1)
    | none => none
theorem placeT_spec {z : Str} : ∀ {ys : List Str} {j : Nat}, placeT z ys = some j → ys[j]? = some z ∧ ∀ m, m < j → ys[m]? ≠ some z
  | [], j, h => by cases h
  | y :: ys, j, h => by
    unfold placeT at h
    split at h
    · rename_i e
      cases h
      exact ⟨by simp [e], fun m hm => absurd hm (Nat.not_lt_zero _)⟩
    · rename_i ne
      split at h
      · rename_i k hk
        cases h
        obtain ⟨h1, h2⟩ := placeT_spec hk
        refine ⟨by simpa using h1, fun m hm => ?_⟩
        cases m with
        | zero => simpa using ne
        | succ m => simpa using h2 m (by omega)
      · cases h
def indexP : List PV → Option PV
  | [.lst _ xs, .str z] => match strsP xs with
    | some zs => match placeT z zs with
      | some j => some (.int (j : Nat))
      | none => none
    | none => none
  | _ => none
theorem ok_indexL : OkF K TB indexP (fun vs H Q => match vs with | v :: vs => rIndex K v vs H Q | [] => False) := by
  intro Z BH O H xs vs z Q g rs hf k
  unfold indexP at hf
  split at hf
  · split at hf
    · rename_i zs hz
      split at hf
      · rename_i j hj
        cases hf
        cases rs with
        | cons A r1 t =>
          cases t with
          | cons B r2 t =>
            cases t
            obtain ⟨p, ws, C, rfl, e, t⟩ := lst_at g.le r1
            rw [strs_of t hz] at e
            cases r2
            obtain ⟨h1, h2⟩ := placeT_spec hj
            refine ⟨p, zs.map V.str, _, j, _, rfl, rfl, SqL.of e, rfl, flat_strs _, (by rw [List.getElem?_map, h1]; rfl), (by simp [eqV]), fun m z' hm hz' => ?_, tell g (fun _ _ => .int _) k⟩
            rw [List.getElem?_map] at hz'
            cases e : zs[m]? with
            | none => rw [e] at hz'; cases hz'
            | some y =>
              rw [e] at hz'
              cases hz'
              have ne := h2 m hm
              rw [e] at ne
              simp only [eqV]
              exact beq_eq_false_iff_ne.mpr fun q => ne (by rw [q])
      · cases hf
    · cases hf
  · cases hf
/-- a written tuple of texts -/
structure TuP (K : PySem.W.Frag) (mg : Str → Option Value) (x : Str) (zs : List Str) : Prop where
  ex : ∃ p o, mg x = some (.ref p) ∧ K.lookup p = some o ∧ o.cls = .type "tuple" ∧ o.dict = none ∧ ∀ H, SqT K H p (zs.map V.str)
def placeP (zs : List Str) : PV → Option PV
  | .str z => match placeT z zs with
    | some j => some (.int (j : Nat))
    | none => none
  | _ => none
theorem TuP.gl {x : Str} {zs : List Str} (h : TuP K mg x zs) : GlP K mg x (.tup (zs.map .str)) := by
  obtain ⟨p, o, hm, _, _, _, sq⟩ := h.ex
  exact ⟨.ref p, _, hm, rfl, fun Z H => .tup (sq Z) reps_strs⟩
theorem se_tidx {X : Cx} {x : Str} {zs : List Str} {e : Expr} {oe : Op} {apos npos cpos : Pos} (h : TuP X.K X.mg x zs) (hg : Gl X x) (he : PE X e (tOpd X.K TB X.mg W oe)) (hd : (x == ("__debug__" : Str)) = false := by decide)
    (hbase : attributeBase (.Name x npos) "index" X.env (eval (.Name x npos) X.env) = eval (.Name x npos) X.env := by rfl)
    (hfew : ((backTo cpos (starEach [e] X.env)).all (fun x => !x.1) && (backToKw cpos (keywordEach [] X.env)).all (fun x => x.1.isSome)
      && decide ([e].length + ([] : List Keyword).length + (if ([] : List Keyword).isEmpty then 0 else 1) < 30)) = true := by rfl)
    (hline : (apos.endLine == cpos.line) = true := by rfl) (hs : starEach [e] X.env = (false, eval e X.env) :: starEach [] X.env := by rfl) (hplain : (backTo cpos (starEach [] X.env)).any (·.1) = false := by rfl) :
    PE X (.Call (.Attribute (.Name x npos) "index" apos) [e] [] cpos) (tE X.K TB X.mg W (eOp (f1 (placeP zs)) [oe])) := by
  obtain ⟨p, o, hm, hk, hc, hd2, sq⟩ := h.ex
  refine conv (pe_bm PySem.F.plainAttrs_tuple PySem.F.slot_tuple_index PySem.F.type_tuple_index mt_tup_index (pe_glob (v := .ref p) hg hm rfl hd) (pa_cons he pa_nil hs) hbase hfew hline hs hplain) fun σ H Q q => ?_
  refine ⟨.inr (.inl ⟨rfl, o, hk, hc, hd2⟩), ?_⟩
  refine opsF (r := fun vs H Q => match vs with | [v] => ∃ p', ∃ ys : List Str, ∃ z j, V.ref p = .ref p' ∧ [v] = [V.str z] ∧ SqT X.K H p' (ys.map V.str) ∧ ys[j]? = some z ∧ (∀ m, m < j → ys[m]? ≠ some z) ∧ Q (.int (j : Nat)) H | _ => False) (fun Z BH O H xs vs z Q g rs hf k => ?_) q |> fun q2 => tOpd_mono q2 fun v H1 q3 => q3
  cases rs with
  | nil => cases hf
  | cons A r1 t =>
    cases t with
    | cons B r2 t => cases hf
    | nil =>
      simp only [f1, placeP] at hf
      split at hf
      · split at hf
        · rename_i j hj
          cases hf
          cases r1
          obtain ⟨h1, h2⟩ := placeT_spec hj
          exact ⟨p, zs, _, j, rfl, rfl, sq _, h1, h2, tell g (fun _ _ => .int _) k⟩
        · cases hf
      · cases hf
/-! ### all, any of lists -/
def blsP : List PV → Option (List Bool)
  | [] => some []
  | .bl b :: xs => match blsP xs with
    | some bs => some (b :: bs)
    | none => none
  | _ => none
theorem bls_of {xs : List PV} {vs : List V} {A : List Addr} {bs : List Bool} (r : Reps K Z H xs vs A) (h : blsP xs = some bs) : vs = bs.map V.bl := by
  induction xs generalizing vs A bs with
  | nil => cases r; cases h; rfl
  | cons x xs ih =>
    cases r with
    | cons r t =>
      cases r <;> first
        | (simp only [blsP] at h
           split at h
           · rename_i ys hy
             cases h
             rw [ih t hy]
             rfl
           · cases h)
        | cases h
def allLP : PV → Option PV
  | .lst _ xs => match blsP xs with
    | some bs => some (.bl (bs.all id))
    | none => none
  | _ => none
def anyLP : PV → Option PV
  | .lst _ xs => match blsP xs with
    | some bs => some (.bl (bs.any id))
    | none => none
  | _ => none
theorem ok_allL : OkF K TB (f1 allLP) (rAll K) := one_op fun Z BH O H x v A z Q g r hf k => by
  unfold allLP at hf
  split at hf
  · split at hf
    · rename_i bs hb
      cases hf
      obtain ⟨a, vs, C, rfl, e, t⟩ := lst_at g.le r
      rw [bls_of t hb] at e
      exact ⟨a, bs, rfl, SqL.of e, tell g (fun _ _ => .bl _) k⟩
    · cases hf
  · cases hf
theorem ok_anyL : OkF K TB (f1 anyLP) (rAny K) := one_op fun Z BH O H x v A z Q g r hf k => by
  unfold anyLP at hf
  split at hf
  · split at hf
    · rename_i bs hb
      cases hf
      obtain ⟨a, vs, C, rfl, e, t⟩ := lst_at g.le r
      rw [bls_of t hb] at e
      exact ⟨a, bs, rfl, SqL.of e, tell g (fun _ _ => .bl _) k⟩
    · cases hf
  · cases hf
/-! ### sorting texts -/
theorem ltC_irr : ∀ a : List Nat, ltCps a a = false
  | [] => rfl
  | x :: r => by simp [ltCps, ltC_irr r]
theorem ltC_tot : ∀ a b : List Nat, ltCps a b = false → ltCps b a = false → a = b
  | [], [], _, _ => rfl
  | [], _ :: _, h, _ => by cases h
  | _ :: _, [], _, h => by cases h
  | x :: r, y :: t, h1, h2 => by
    simp only [ltCps, Bool.or_eq_false_iff, decide_eq_false_iff_not, Bool.and_eq_false_iff] at h1 h2
    have e : x = y := by omega
    subst e
    have q1 := h1.2.resolve_left (by simp)
    have q2 := h2.2.resolve_left (by simp)
    rw [ltC_tot r t q1 q2]
theorem ltC_trans : ∀ a b c : List Nat, ltCps b a = false → ltCps c b = false → ltCps c a = false
  | [], _, [], _, _ => rfl
  | [], b, z :: u, h1, h2 => by
    cases b with
    | nil => exact h2
    | cons y t => rfl
  | x :: r, [], c, h1, h2 => by cases h1
  | x :: r, y :: t, [], h1, h2 => by cases h2
  | x :: r, y :: t, z :: u, h1, h2 => by
    simp only [ltCps, Bool.or_eq_false_iff, decide_eq_false_iff_not, Bool.and_eq_false_iff, beq_eq_false_iff_ne] at h1 h2 ⊢
    refine ⟨by omega, ?_⟩
    by_cases e : z = x
    · subst e
      right
      have e2 : y = z := by omega
      subst e2
      exact ltC_trans r t u (h1.2.resolve_left (by simp)) (h2.2.resolve_left (by simp))
    · exact .inl e
abbrev LeT (x y : Str) : Prop := ltCps y.cps.toList x.cps.toList = false
theorem LeT.anti {x y : Str} (h1 : LeT x y) (h2 : LeT y x) : x = y := by
  have e := ltC_tot _ _ h2 h1
  obtain ⟨a⟩ := x
  obtain ⟨b⟩ := y
  congr 1
  exact Array.toList_inj.mp e
theorem LeT.trans {x y z : Str} (h1 : LeT x y) (h2 : LeT y z) : LeT x z := ltC_trans _ _ _ h1 h2
theorem LeT.total (x y : Str) (h : ¬ LeT x y) : LeT y x := by
  unfold LeT at h ⊢
  cases e : ltCps x.cps.toList y.cps.toList with
  | false => rfl
  | true =>
    cases e2 : ltCps y.cps.toList x.cps.toList with
    | false => exact absurd e2 h
    | true =>
      exfalso
      have : ∀ a b : List Nat, ltCps a b = true → ltCps b a = true → False := by
        intro a
        induction a with
        | nil => intro b h1 h2; cases b <;> cases h2
        | cons u a ih =>
          intro b h1 h2
          cases b with
          | nil => cases h1
          | cons v b =>
            simp only [ltCps, Bool.or_eq_true, decide_eq_true_eq, Bool.and_eq_true, beq_iff_eq] at h1 h2
            rcases h1 with h1 | ⟨rfl, h1⟩
            · rcases h2 with h2 | ⟨rfl, h2⟩ <;> omega
            · rcases h2 with h2 | ⟨_, h2⟩
              · omega
              · exact ih b h1 h2
      exact this _ _ e e2
theorem insT_perm (x : Str) : ∀ ys : List Str, (insT x ys).Perm (x :: ys)
  | [] => .refl _
  | y :: ys => by
    unfold insT
    split
    · exact .refl _
    · exact ((insT_perm x ys).cons y).trans (.swap x y ys)
theorem sortT_perm : ∀ xs : List Str, (sortT xs).Perm xs
  | [] => .refl _
  | x :: xs => (insT_perm x (sortT xs)).trans ((sortT_perm xs).cons x)
theorem insT_sorted {x : Str} : ∀ {ys : List Str}, ys.Pairwise LeT → (insT x ys).Pairwise LeT
  | [], _ => List.pairwise_singleton _ _
  | y :: ys, h => by
    obtain ⟨h1, h2⟩ := List.pairwise_cons.mp h
    unfold insT
    split
    · rename_i hc
      have hxy : LeT x y := by unfold leT at hc; simpa using hc
      refine List.pairwise_cons.mpr ⟨fun z hz => ?_, h⟩
      rcases List.mem_cons.mp hz with rfl | hz
      · exact hxy
      · exact hxy.trans (h1 z hz)
    · rename_i hc
      have hyx : LeT y x := LeT.total x y (by unfold leT at hc; simpa using hc)
      refine List.pairwise_cons.mpr ⟨fun z hz => ?_, insT_sorted h2⟩
      rcases List.mem_cons.mp ((insT_perm x ys).mem_iff.mp hz) with rfl | hz
      · exact hyx
      · exact h1 z hz
theorem sortT_sorted : ∀ xs : List Str, (sortT xs).Pairwise LeT
  | [] => .nil
  | x :: xs => insT_sorted (sortT_sorted xs)
theorem sorted_pw : ∀ {p : Str} {ys : List Str}, risingS p ys = true → (p :: ys).Pairwise LeT
  | p, [], _ => List.pairwise_singleton _ _
  | p, y :: ys, h => by
    simp only [risingS, Bool.and_eq_true, Bool.not_eq_true'] at h
    have ih := sorted_pw (p := y) (ys := ys) h.2
    refine List.pairwise_cons.mpr ⟨fun z hz => ?_, ih⟩
    rcases List.mem_cons.mp hz with rfl | hz
    · exact h.1
    · exact LeT.trans (x := p) (y := y) h.1 ((List.pairwise_cons.mp ih).1 z hz)
theorem sortedS_pw {ys : List Str} (h : sortedS ys = true) : ys.Pairwise LeT := by
  cases ys with
  | nil => exact .nil
  | cons y ys => exact sorted_pw h
theorem perm_sorted_eq : ∀ {xs ys : List Str}, xs.Perm ys → xs.Pairwise LeT → ys.Pairwise LeT → xs = ys
  | [], ys, p, _, _ => by rw [p.nil_eq]
  | x :: xs, [], p, _, _ => by have := p.length_eq; simp at this
  | x :: xs, y :: ys, p, h1, h2 => by
    obtain ⟨a1, a2⟩ := List.pairwise_cons.mp h1
    obtain ⟨b1, b2⟩ := List.pairwise_cons.mp h2
    have e : x = y := by
      have m1 := p.mem_iff.mp (List.mem_cons_self (a := x) (l := xs))
      have m2 := p.mem_iff.mpr (List.mem_cons_self (a := y) (l := ys))
      rcases List.mem_cons.mp m1 with e | m1
      · exact e
      · rcases List.mem_cons.mp m2 with e | m2
        · exact e.symm
        · exact LeT.anti (a1 y m2) (b1 x m1)
    subst e
    rw [perm_sorted_eq (p.cons_inv) a2 b2]
def sortP : PV → Option PV
  | .lst _ xs => match strsP xs with
    | some zs => if zs.length < 64 then some (.lst true ((sortT zs).map .str)) else none
    | none => none
  | _ => none
theorem ok_sortT : OkF K TB (f1 sortP) (rSortedS K) := one_op fun Z BH O H x v A z Q g r hf k => by
  unfold sortP at hf
  split at hf
  · split at hf
    · rename_i zs hz
      split at hf
      · rename_i hl
        cases hf
        obtain ⟨a, vs, C, rfl, e, t⟩ := lst_at g.le r
        rw [strs_of t hz] at e
        refine ⟨a, zs, rfl, SqL.of e, hl, fun ys p hp hs hn => ?_⟩
        have eq : ys = sortT zs := perm_sorted_eq (hp.trans (sortT_perm zs).symm) (sortedS_pw hs) (sortT_sorted zs)
        rw [eq]
        exact k (.ref p) _ _ [p] (New.lst g hn) (.lstO upd_same reps_strs)
      · cases hf
    · cases hf
  · cases hf
end Ev

set_option Elab.async false
set_option linter.all false
set_option maxRecDepth 100000
set_option maxHeartbeats 2000000
/-! Comprehensions of two walks. -/
namespace Ev
open PySem PySem.Spec PyProof.Rows L2 GxR Gx Gq
variable {K : PySem.W.Frag} {Z Z' H H' BH BH' : Hp} {TB : List Addr} {F : Fx} {env env' : Env} {σ : List (Option V)} {tm ts : Tm} {O O' : List Addr} {mg : Str → Option Value} {W : WX} {Q Q' : VK} {D : Ends} {R : It → Hp → Prop}
def mIn (vs1 : List Nat) (g1 : Bnd) (tt1 : M Bool) (te : M PV) : List PV → Env → Out (List PV)
  | [], env => .ok [] env
  | x :: r, env => match wipeE env vs1 with
    | none => .bad
    | some e0 => match g1 x e0 with
      | none => .bad
      | some env1 => match tt1 env1 with
        | .ok true env2 => match te env2 with
          | .ok y env3 => match mIn vs1 g1 tt1 te r env3 with
            | .ok l e => .ok (y :: l) e
            | _ => .bad
          | _ => .bad
        | .ok false env2 => mIn vs1 g1 tt1 te r env2
        | _ => .bad
def mLc2 (vs vs1 : List Nat) (g : Bnd) (tt : M Bool) (src1 : Src) (g1 : Bnd) (tt1 : M Bool) (te : M PV) : List PV → Env → Out (List PV)
  | [], env => match wipeE env vs with
    | some e0 => .ok [] e0
    | none => .bad
  | x :: r, env => match wipeE env vs with
    | none => .bad
    | some e0 => match g x e0 with
      | none => .bad
      | some env1 => match tt env1 with
        | .ok true env2 => match src1 env2 with
          | .ok items1 env3 => match mIn vs1 g1 tt1 te items1 env3 with
            | .ok l1 env4 => match mLc2 vs vs1 g tt src1 g1 tt1 te r env4 with
              | .ok l e => .ok (l1 ++ l) e
              | _ => .bad
            | _ => .bad
          | _ => .bad
        | .ok false env2 => mLc2 vs vs1 g tt src1 g1 tt1 te r env2
        | _ => .bad
def eLc2 (src : Src) (vs vs1 : List Nat) (g : Bnd) (tt : M Bool) (src1 : Src) (g1 : Bnd) (tt1 : M Bool) (te : M PV) : M PV := fun env => match src env with
  | .ok items env1 => if vs.all (keptE env1) = true ∧ vs.Nodup then match mLc2 vs vs1 g tt src1 g1 tt1 te items env1 with
      | .ok l env2 => if l.length ≤ CAP then .ok (.lst true l) (restE env1 env2 vs) else .bad
      | _ => .bad
    else .bad
  | .exc c xs env1 => .exc c xs env1
  | .bad => .bad
theorem wipe_of {vs vs1 : List Nat} {σ σ' : L2.St} (l : σ'.length = σ.length) (h : L2.wipe σ' vs1 = L2.wipe σ vs1) (hs : ∀ i ∈ vs1, i ∈ vs) : L2.wipe σ' vs = L2.wipe σ vs :=
  wipe_sub (is := vs1) l (fun j hj => by rw [← wipe_out hj (σ := σ'), ← wipe_out hj (σ := σ), h]) hs
theorem tE_lc2 {src src1 : Src} {vs vs1 is is1 : List Nat} {g g1 : Bnd} {tt tt1 : M Bool} {te : M PV} {tg tg1 : TG} {tts tts1 : TT} {W' : WX} (og : OkG K TB is g tg) (hi : ∀ i ∈ is, i ∈ vs) (og1 : OkG K TB is1 g1 tg1) (hi1 : ∀ i ∈ is1, i ∈ vs1) (hv : ∀ i ∈ vs1, i ∈ vs)
    (ott : ∀ σ H Q, tT K TB mg W' tt σ H Q → tts σ H Q) (ott1 : ∀ σ H Q, tT K TB mg W' tt1 σ H Q → tts1 σ H Q)
    (h : tE K TB mg W (eLc2 src vs vs1 g tt src1 g1 tt1 te) σ H Q) : tLc2 (tI K TB mg W src) tg tts (tI K TB mg W' src1) tg1 tts1 (tE K TB mg W' te) vs vs1 σ H Q := by
  obtain ⟨F, env, tm, Z, O, s, p⟩ := h
  refine ⟨F, env, tm, Z, O, s, ?_⟩
  unfold eLc2 at p
  cases q : src env with
  | exc c xs env1 => rw [q] at p; exact p
  | bad => rw [q] at p; exact p
  | ok items env1 =>
    rw [q] at p
    intro J H1 Z1 O1 st sm jok Da hDa
    simp only at p
    split at p
    · rename_i hc
      obtain ⟨hkept, hnd⟩ := hc
      cases q2 : mLc2 vs vs1 g tt src1 g1 tt1 te items env1 with
      | exc c xs e => rw [q2] at p; exact p.elim
      | bad => rw [q2] at p; exact p.elim
      | ok l env2 =>
        rw [q2] at p
        simp only at p
        split at p
        · rename_i hcap
          have sm0 : Sim K TB F env1 σ (tm ++ []) Z1 H1 O1 := by rw [List.append_nil]; exact sm
          obtain ⟨O2, st2, sm2⟩ := sm0.made (fr := false) (o := .lst []) (x := .lst true []) (Zn := Z1) hDa rfl (fun A r => by
            cases r
            exact .lstO upd_same .nil)
          refine ⟨fun i m H => m = items.length - i ∧ i ≤ items.length ∧ ∃ envi σi acc Z O li, Sim K TB F envi σi (tm ++ [(.lst true acc, .ref Da)]) Z H O ∧ L2.wipe σi vs = L2.wipe σ vs ∧ Le Z1 Z ∧ Step TB Z1 O1 H1 Z O H ∧
              mLc2 vs vs1 g tt src1 g1 tt1 te (items.drop i) envi = .ok li env2 ∧ acc ++ li = l, ⟨_, rfl, Nat.zero_le _, env1, σ, [], Z1, O2, l, sm2, rfl, .refl, st2, q2, rfl⟩, ?_⟩
          rintro i m H3 ⟨rfl, hile, envi, σi, acc, Z3, O3, li, s3, w3, z3, st3, hm, el⟩
          obtain ⟨hst, hgo⟩ := jok Z3 O3 H3 z3 s3.good
          rcases Nat.lt_or_ge i items.length with lt | ge
          · right
            have hx : items[i]? = some items[i] := List.getElem?_eq_getElem lt
            obtain ⟨go, hy⟩ := hgo i _ hx
            rw [List.drop_eq_getElem_cons lt] at hm
            refine ⟨go, fun H' => items.length - (i + 1) = items.length - (i + 1) ∧ i + 1 ≤ items.length ∧ ∃ envi σi acc Z O li, Sim K TB F envi σi (tm ++ [(.lst true acc, .ref Da)]) Z H' O ∧ L2.wipe σi vs = L2.wipe σ vs ∧ Le Z1 Z ∧ Step TB Z1 O1 H1 Z O H' ∧
              mLc2 vs vs1 g tt src1 g1 tt1 te (items.drop (i + 1)) envi = .ok li env2 ∧ acc ++ li = l, fun H' hN => ⟨_, Nat.sub_succ_lt_self _ _ lt, hN⟩, fun x H' hyl => ?_⟩
            obtain ⟨Z', nw, r⟩ := hy x H' hyl
            have st4 := nw.step (O := O3)
            rw [List.append_nil] at st4
            have s4 := nw.sim0 s3
            unfold mLc2 at hm
            split at hm
            · cases hm
            · rename_i e0 he0
              obtain ⟨O5, st5, s5⟩ := Sim.wipe he0 s4
              rw [w3] at s5
              split at hm
              · cases hm
              · rename_i env4 hg
                refine og F e0 env4 (L2.wipe σ vs) _ Z' H' O5 _ x _ s5 r hg fun σ6 O6 u6 l6 st6 s6 => ?_
                have w6 : L2.wipe σ6 vs = L2.wipe σ vs := (wipe_sub l6 u6 hi).trans wipe_wipe
                refine ⟨w6, ott _ _ _ ⟨F, env4, _, Z', O6, s6, ?_⟩⟩
                have stA : Step TB Z1 O1 H1 Z' O6 H' := ((st3.trans st4).trans st5).trans st6
                cases qt : tt env4 with
                | exc c xs e => rw [qt] at hm; cases hm
                | bad => rw [qt] at hm; cases hm
                | ok b env5 =>
                  rw [qt] at hm
                  intro H7 Z7 O7 st7 s7
                  cases b with
                  | false =>
                    rw [if_neg Bool.false_ne_true]
                    exact ⟨rfl, lt, env5, σ6, acc, Z7, O7, li, s7, w6, z3.trans (st4.z.trans st7.z), stA.trans st7, hm, el⟩
                  | true =>
                    rw [if_pos rfl]
                    refine ⟨F, env5, _, Z7, O7, s7, ?_⟩
                    simp only at hm
                    cases qs : src1 env5 with
                    | exc c xs e => rw [qs] at hm; cases hm
                    | bad => rw [qs] at hm; cases hm
                    | ok items1 env6 =>
                      rw [qs] at hm
                      intro J1 H8 Z8 O8 st8 s8 jok1
                      simp only at hm
                      cases qi : mIn vs1 g1 tt1 te items1 env6 with
                      | exc c xs e => rw [qi] at hm; cases hm
                      | bad => rw [qi] at hm; cases hm
                      | ok l1 env7 =>
                        rw [qi] at hm
                        simp only at hm
                        cases qr : mLc2 vs vs1 g tt src1 g1 tt1 te (items.drop (i + 1)) env7 with
                        | exc c xs e => rw [qr] at hm; cases hm
                        | bad => rw [qr] at hm; cases hm
                        | ok l2 e2 =>
                          rw [qr] at hm
                          cases hm
                          have zA : Le Z1 Z8 := z3.trans (st4.z.trans (st7.z.trans st8.z))
                          have stB : Step TB Z1 O1 H1 Z8 O8 H8 := (stA.trans st7).trans st8
                          refine ⟨fun j k H => k = items1.length - j ∧ j ≤ items1.length ∧ ∃ envj σj accj Z O lj, Sim K TB F envj σj (tm ++ [(.lst true accj, .ref Da)]) Z H O ∧ σj.length = σ6.length ∧ L2.wipe σj vs1 = L2.wipe σ6 vs1 ∧ Le Z8 Z ∧ Step TB Z1 O1 H1 Z O H ∧
                            mIn vs1 g1 tt1 te (items1.drop j) envj = .ok lj env7 ∧ accj ++ lj = acc ++ l1, ⟨_, rfl, Nat.zero_le _, env6, σ6, acc, Z8, O8, l1, s8, rfl, rfl, .refl, stB, qi, rfl⟩, ?_⟩
                          rintro j k H9 ⟨rfl, hjle, envj, σj, accj, Z9, O9, lj, s9, l9, w9, z9, st9, hmj, ej⟩
                          obtain ⟨hst1, hgo1⟩ := jok1 Z9 O9 H9 z9 s9.good
                          rcases Nat.lt_or_ge j items1.length with ltj | gej
                          · right
                            have hxj : items1[j]? = some items1[j] := List.getElem?_eq_getElem ltj
                            obtain ⟨goj, hyj⟩ := hgo1 j _ hxj
                            rw [List.drop_eq_getElem_cons ltj] at hmj
                            refine ⟨goj, fun H' => items1.length - (j + 1) = items1.length - (j + 1) ∧ j + 1 ≤ items1.length ∧ ∃ envj σj accj Z O lj, Sim K TB F envj σj (tm ++ [(.lst true accj, .ref Da)]) Z H' O ∧ σj.length = σ6.length ∧ L2.wipe σj vs1 = L2.wipe σ6 vs1 ∧ Le Z8 Z ∧ Step TB Z1 O1 H1 Z O H' ∧
                              mIn vs1 g1 tt1 te (items1.drop (j + 1)) envj = .ok lj env7 ∧ accj ++ lj = acc ++ l1, fun H' hN => ⟨_, Nat.sub_succ_lt_self _ _ ltj, hN⟩, fun x1 H10 hyl1 => ?_⟩
                            obtain ⟨Z10, nw10, r10⟩ := hyj x1 H10 hyl1
                            have st10 := nw10.step (O := O9)
                            rw [List.append_nil] at st10
                            have s10 := nw10.sim0 s9
                            unfold mIn at hmj
                            split at hmj
                            · cases hmj
                            · rename_i e10 he10
                              obtain ⟨O11, st11, s11⟩ := Sim.wipe he10 s10
                              rw [w9] at s11
                              split at hmj
                              · cases hmj
                              · rename_i env12 hg12
                                refine og1 F e10 env12 (L2.wipe σ6 vs1) _ Z10 H10 O11 _ x1 _ s11 r10 hg12 fun σ12 O12 u12 l12 st12 s12 => ?_
                                have w12 : L2.wipe σ12 vs1 = L2.wipe σ6 vs1 := (wipe_sub l12 u12 hi1).trans wipe_wipe
                                have len12 : σ12.length = σ6.length := by rw [l12, wipe_length]
                                refine ⟨w12, ott1 _ _ _ ⟨F, env12, _, Z10, O12, s12, ?_⟩⟩
                                have stC : Step TB Z1 O1 H1 Z10 O12 H10 := ((st9.trans st10).trans st11).trans st12
                                cases qt1 : tt1 env12 with
                                | exc c xs e => rw [qt1] at hmj; cases hmj
                                | bad => rw [qt1] at hmj; cases hmj
                                | ok b1 env13 =>
                                  rw [qt1] at hmj
                                  intro H13 Z13 O13 st13 s13
                                  cases b1 with
                                  | false =>
                                    rw [if_neg Bool.false_ne_true]
                                    exact ⟨rfl, ltj, env13, σ12, accj, Z13, O13, lj, s13, len12, w12, z9.trans (st10.z.trans st13.z), stC.trans st13, hmj, ej⟩
                                  | true =>
                                    rw [if_pos rfl]
                                    refine ⟨F, env13, _, Z13, O13, s13, ?_⟩
                                    simp only at hmj
                                    cases qe : te env13 with
                                    | exc c xs e => rw [qe] at hmj; cases hmj
                                    | bad => rw [qe] at hmj; cases hmj
                                    | ok y env14 =>
                                      rw [qe] at hmj
                                      intro u H14 Z14 O14 st14 s14
                                      simp only at hmj
                                      cases qm : mIn vs1 g1 tt1 te (items1.drop (j + 1)) env14 with
                                      | exc c xs e => rw [qm] at hmj; cases hmj
                                      | bad => rw [qm] at hmj; cases hmj
                                      | ok l3 e3 =>
                                        rw [qm] at hmj
                                        cases hmj
                                        rw [List.append_assoc] at s14
                                        obtain ⟨accV, eA, lA, O15, st15, s15⟩ := s14.appT
                                        refine ⟨accV, eA, ?_, rfl, ltj, env14, σ12, accj ++ [y], Z14, O15, l3, s15, len12, w12, z9.trans (st10.z.trans (st13.z.trans st14.z)), ((stC.trans st13).trans st14).trans st15, qm, ?_⟩
                                        · rw [lA, cap_eq]
                                          have e1 := congrArg List.length ej
                                          have e2 := congrArg List.length el
                                          simp only [List.length_append, List.length_cons] at e1 e2
                                          omega
                                        · rw [← ej, List.append_assoc] <;> rfl
                          · left
                            obtain rfl : j = items1.length := Nat.le_antisymm hjle gej
                            rw [List.drop_length] at hmj
                            unfold mIn at hmj
                            cases hmj
                            rw [List.append_nil] at ej
                            subst ej
                            refine ⟨hst1, rfl, lt, _, σj, acc ++ l1, Z9, O9, l2, s9, ?_, zA.trans z9, st9, qr, ?_⟩
                            · exact (wipe_of l9 w9 hv).trans w6
                            · rw [← el, List.append_assoc]
          · left
            obtain rfl : i = items.length := Nat.le_antisymm hile ge
            refine ⟨hst, ?_⟩
            rw [List.drop_length] at hm
            unfold mLc2 at hm
            split at hm
            · rename_i e0 he0
              cases hm
              obtain ⟨O5, st5, s5⟩ := Sim.wipe he0 s3
              rw [w3] at s5
              obtain ⟨O6, st6, s6⟩ := Sim.rest (env1 := env1) hnd (fun v hv => kept_slots sm (List.all_eq_true.mp hkept v hv) z3) (not_io he0) s5
              rw [List.append_nil] at el
              subst el
              exact p (.ref Da) H3 Z3 O6 (st.trans ((st3.trans st5).trans st6)) s6
            · cases hm
        · exact p.elim
    · exact p.elim
section
variable {X : Cx} {pos : Pos}
theorem se_lc2 {elt tg iter tg1 iter1 : Expr} {ifs ifs1 : List Expr} {scope : Scope} {own : List (Str × Nat)} {vs1 is is1 : List Nat} {src src1 : Src} {g g1 : Bnd} {tgg tgg1 : TG} {tt tt1 : M Bool} {tts tts1 : TT} {te : M PV} {W' : WX} (hc : X.calm = true) (hN : X.N.Nodup) (hi : PI X tg iter (tI K TB mg W src)) (ok : BlkOk X.N X.env.scope scope own) (og : OkG K TB is g tgg) (hin : ∀ i ∈ is, i ∈ own.map (·.2)) (og1 : OkG K TB is1 g1 tgg1) (hin1 : ∀ i ∈ is1, i ∈ vs1) (hv : ∀ i ∈ vs1, i ∈ own.map (·.2))
    (ott : ∀ σ H Q, tT K TB mg W' tt σ H Q → tts σ H Q) (ott1 : ∀ σ H Q, tT K TB mg W' tt1 σ H Q → tts1 σ H Q)
    (hg : ∀ (s : Shared) (H : Hp) (C : Addr) (cl : List (Str × Addr)) (fp : List Addr), PG (X.blk s H scope (compEnvC scope cl C X.env) fp) tg tgg) (ht : ∀ (s : Shared) (H : Hp) (C : Addr) (cl : List (Str × Addr)) (fp : List Addr), PTs (X.blk s H scope (compEnvC scope cl C X.env) fp) ifs tts)
    (hi1 : ∀ (s : Shared) (H : Hp) (C : Addr) (cl : List (Str × Addr)) (fp : List Addr), PI (X.blk s H scope (compEnvC scope cl C X.env) fp) tg1 iter1 (tI K TB mg W' src1))
    (hg1 : ∀ (s : Shared) (H : Hp) (C : Addr) (cl : List (Str × Addr)) (fp : List Addr), PG (X.blk s H scope (compEnvC scope cl C X.env) fp) tg1 tgg1) (ht1 : ∀ (s : Shared) (H : Hp) (C : Addr) (cl : List (Str × Addr)) (fp : List Addr), PTs (X.blk s H scope (compEnvC scope cl C X.env) fp) ifs1 tts1)
    (he : ∀ (s : Shared) (H : Hp) (C : Addr) (cl : List (Str × Addr)) (fp : List Addr), PE (X.blk s H scope (compEnvC scope cl C X.env) fp) elt (tE K TB mg W' te)) (hs : ∀ x, foldedSetIterable iter X.env x = pure x := by intro _; rfl) (hs1 : ∀ env x, foldedSetIterable iter1 env x = pure x := by intro _ _; rfl) :
    PE X (.ListComp elt [⟨tg, iter, ifs, 0⟩, ⟨tg1, iter1, ifs1, 0⟩] scope pos) (tE K TB mg W (eLc2 src (own.map (·.2)) vs1 g tt src1 g1 tt1 te)) :=
  conv (pe_lc2 hc hN hi ok hv hg ht hi1 hg1 ht1 he hs hs1) fun _ _ _ q => tE_lc2 og hin og1 hin1 hv ott ott1 q
theorem ss_setLc2 {i : Nat} {y : Str} {py spos : Pos} {elt tg iter tg1 iter1 : Expr} {ifs ifs1 : List Expr} {scope : Scope} {own : List (Str × Nat)} {vs1 is is1 : List Nat} {src src1 : Src} {g g1 : Bnd} {tgg tgg1 : TG} {tt tt1 : M Bool} {tts tts1 : TT} {te : M PV} {W' : WX} (hc : X.calm = true) (hN : X.N.Nodup) (hy : X.N[i]? = some y) (hyl : X.env.scope.names.lookup y = some .local)
    (hsw : swapsWith (.ListComp elt [⟨tg, iter, ifs, 0⟩, ⟨tg1, iter1, ifs1, 0⟩] scope pos) (some (.Name y py)) spos.line X.env = pure true) (hi : PI X tg iter (tI K TB mg W src)) (ok : BlkOk X.N X.env.scope scope own) (og : OkG K TB is g tgg) (hin : ∀ i ∈ is, i ∈ own.map (·.2)) (og1 : OkG K TB is1 g1 tgg1) (hin1 : ∀ i ∈ is1, i ∈ vs1) (hv : ∀ i ∈ vs1, i ∈ own.map (·.2))
    (ott : ∀ σ H Q, tT K TB mg W' tt σ H Q → tts σ H Q) (ott1 : ∀ σ H Q, tT K TB mg W' tt1 σ H Q → tts1 σ H Q)
    (hg : ∀ (s : Shared) (H : Hp) (C : Addr) (cl : List (Str × Addr)) (fp : List Addr), PG (X.blk s H scope (compEnvC scope cl C X.env) fp) tg tgg) (ht : ∀ (s : Shared) (H : Hp) (C : Addr) (cl : List (Str × Addr)) (fp : List Addr), PTs (X.blk s H scope (compEnvC scope cl C X.env) fp) ifs tts)
    (hi1 : ∀ (s : Shared) (H : Hp) (C : Addr) (cl : List (Str × Addr)) (fp : List Addr), PI (X.blk s H scope (compEnvC scope cl C X.env) fp) tg1 iter1 (tI K TB mg W' src1))
    (hg1 : ∀ (s : Shared) (H : Hp) (C : Addr) (cl : List (Str × Addr)) (fp : List Addr), PG (X.blk s H scope (compEnvC scope cl C X.env) fp) tg1 tgg1) (ht1 : ∀ (s : Shared) (H : Hp) (C : Addr) (cl : List (Str × Addr)) (fp : List Addr), PTs (X.blk s H scope (compEnvC scope cl C X.env) fp) ifs1 tts1)
    (he : ∀ (s : Shared) (H : Hp) (C : Addr) (cl : List (Str × Addr)) (fp : List Addr), PE (X.blk s H scope (compEnvC scope cl C X.env) fp) elt (tE K TB mg W' te)) (hs : ∀ x, foldedSetIterable iter X.env x = pure x := by intro _; rfl) (hs1 : ∀ env x, foldedSetIterable iter1 env x = pure x := by intro _ _; rfl) :
    PS X (.Assign [.Name y py] (.ListComp elt [⟨tg, iter, ifs, 0⟩, ⟨tg1, iter1, ifs1, 0⟩] scope pos) spos) (tS K TB mg W (sAsg i (eLc2 src (own.map (·.2)) vs1 g tt src1 g1 tt1 te))) :=
  convS (ps_setLc2 hc hN hy hyl hsw hi ok hv hg ht hi1 hg1 ht1 he hs hs1) fun D σ H q => tE_lc2 og hin og1 hin1 hv ott ott1 (tS_asg q)
end
end Ev

set_option Elab.async false
set_option linter.all false
set_option maxRecDepth 100000
set_option maxHeartbeats 2000000
/-! The law's own def; facts out of the head. -/
namespace Ev
open PySem PySem.Spec PyProof.Rows L2 GxR Gx Gq
variable {K : PySem.W.Frag} {TB : List Addr} {mg : Str → Option Value}
def script (ns : List Int) : PV := .rol (ns.map .int)
theorem reps_ints {Z H : Hp} : ∀ {ns : List Int}, Reps K Z H (ns.map PV.int) (ns.map V.int) []
  | [] => .nil
  | n :: ns => Reps.cons (A := []) (B := []) (.int n) reps_ints
theorem law_sp {den : List PV → DOut} {H : Hp} {a : Addr} {ns : List Int} (hd : den [script ns] = .ok (.bl true) []) (ht : ∀ t ∈ TB, TabG H t) (hl : SqL K H a (ns.map V.int)) :
    spD K TB mg [false] den [.ref a] H (fun v _ => v = .bl true) fun _ _ _ => False := by
  have le : Le (fun b => if b ∈ TB then none else H b) H := fun b o e => by
    simp only at e
    split at e
    · cases e
    · exact e
  have nt : ∀ t ∈ TB, (if t ∈ TB then none else H t) = none := fun t h => if_pos h
  have hZ : SqL K (fun b => if b ∈ TB then none else H b) a (ns.map V.int) := by
    rcases hl with (h | ⟨o, h⟩) | h
    · refine .inl (.inl ?_)
      simp only
      rw [if_neg fun m => by
        obtain ⟨ps, e, _⟩ := ht a m
        rw [h] at e
        cases e]
      exact h
    · refine .inl (.inr ⟨o, ?_⟩)
      simp only
      rw [if_neg fun m => by
        obtain ⟨ps, e, _⟩ := ht a m
        rw [h] at e
        cases e]
      exact h
    · exact .inr h
  refine ⟨fun b => if b ∈ TB then none else H b, fun b => if b ∈ TB then none else H b, [], [script ns], ⟨le, (fun a h => by cases h), List.nodup_nil, ht, nt, le, (fun a h => by cases h), nt⟩, .bor (A := []) (.rol hZ reps_ints) .nil, ?_⟩
  rw [hd]
  intro v H' Z' O' Ar _ _ _ r
  cases r
  rfl
/-! ### facts -/
def bareB (K : PySem.W.Frag) (x : Str) : Bool := match K.lookup (He.ga K x) with
  | some ⟨.type c, none, _, _⟩ => decide (c = "tuple")
  | _ => false
theorem TuP.of {x : Str} {zs : List Str} (h : He.tupB K x (zs.map He.Dv.str) = true) (hb : bareB K x = true) (hm : mg x = some (.ref (He.ga K x))) : TuP K mg x zs := by
  have em : (zs.map He.Dv.str).map (He.Dv.v K) = zs.map V.str := by rw [List.map_map]; rfl
  unfold bareB at hb
  split at hb
  · rename_i c dt osl q
    exact ⟨_, _, hm, q, congrArg Value.type (of_decide_eq_true hb), rfl, fun H => by rw [← em]; exact He.tupB_ok h H⟩
  · cases hb
theorem GlP.strs {x : Str} {zs : List Str} (h : He.tupB K x (zs.map He.Dv.str) = true) (hm : mg x = some (.ref (He.ga K x))) : GlP K mg x (.tup (zs.map .str)) := by
  have em : (zs.map He.Dv.str).map (He.Dv.v K) = zs.map V.str := by rw [List.map_map]; rfl
  exact ⟨.ref _, _, hm, rfl, fun Z H => .tup (by rw [← em]; exact He.tupB_ok h Z) reps_strs⟩
theorem GlP.ints {x : Str} {zs : List Int} (h : He.tupB K x (zs.map He.Dv.int) = true) (hm : mg x = some (.ref (He.ga K x))) : GlP K mg x (.tup (zs.map .int)) := by
  have em : (zs.map He.Dv.int).map (He.Dv.v K) = zs.map V.int := by rw [List.map_map]; rfl
  exact ⟨.ref _, _, hm, rfl, fun Z H => .tup (by rw [← em]; exact He.tupB_ok h Z) reps_ints⟩
theorem GlP.ofInt {x : Str} {i : Int} (h : ∃ t, mg x = some (.int i t)) : GlP K mg x (.int i) := let ⟨t, e⟩ := h; .int e
theorem GlP.ofStr {x z : Str} (h : ∃ t, mg x = some (.str z t)) : GlP K mg x (.str z) := let ⟨t, e⟩ := h; .str e
theorem Er.of {x : Str} (h : Gc.excB K (He.ga K x) = true) (hm : mg x = some (.ref (He.ga K x))) : Gk.Er K mg x := ⟨Gc.excB_ok h, hm⟩
/-! dicts of the module -/
def flatVs : List PV → Option (List V)
  | [] => some []
  | .int i :: xs => match flatVs xs with
    | some vs => some (.int i :: vs)
    | none => none
  | .str z :: xs => match flatVs xs with
    | some vs => some (.str z :: vs)
    | none => none
  | _ => none
theorem flatVs_ok {Z H : Hp} : ∀ {xs : List PV} {vs : List V}, flatVs xs = some vs → Reps K Z H xs vs []
  | [], vs, h => by cases h; exact .nil
  | x :: xs, vs, h => by
    unfold flatVs at h
    split at h
    · rename_i e; cases e
    · rename_i e
      cases e
      split at h
      · rename_i ws hw
        cases h
        exact Reps.cons (A := []) (B := []) (.int _) (flatVs_ok hw)
      · cases h
    · rename_i e
      cases e
      split at h
      · rename_i ws hw
        cases h
        exact Reps.cons (A := []) (B := []) (.str _) (flatVs_ok hw)
      · cases h
    · cases h
def pvB (K : PySem.W.Frag) : PV → Value → Bool
  | .int i, .int j _ => decide (i = j)
  | .str a, .str b _ => decide (a = b)
  | .tup xs, .ref a => match flatVs xs with
    | some vs => (match K.lookup a with
      | some ⟨.type c, _, .seq its _, _⟩ => decide (c = "tuple") && (decide (its.size ≤ sizeLine) && He.relAll vs its.toList)
      | _ => false)
    | none => false
  | _, _ => false
theorem pvB_ok {x : PV} {u : Value} (h : pvB K x u = true) : ∃ v, RelV v u ∧ ∀ Z H, Rep K Z H x v [] := by
  unfold pvB at h
  split at h
  · obtain rfl := of_decide_eq_true h
    exact ⟨.int _, ⟨_, rfl⟩, fun _ _ => .int _⟩
  · obtain rfl := of_decide_eq_true h
    exact ⟨.str _, ⟨_, rfl⟩, fun _ _ => .str _⟩
  · split at h
    · rename_i vs hv
      split at h
      · rename_i c d its n osl q
        simp only [Bool.and_eq_true, decide_eq_true_eq] at h
        obtain ⟨h1, h2, h3⟩ := h
        exact ⟨.ref _, rfl, fun Z H => .tup (.inr ⟨_, its, n, q, congrArg Value.type h1, rfl, h2, He.relAll_ok h3⟩) (flatVs_ok hv)⟩
      · cases h
    · cases h
  · cases h
def kdB (K : PySem.W.Frag) (x : Str) (tbl : List (Str × PV)) : Bool := tbl.all fun p => match PySem.W.nsIn K (He.ga K x) p.1 with
  | some (some u) => pvB K p.2 u
  | _ => false
theorem lookup_mem {tbl : List (Str × PV)} {z : Str} {y : PV} (h : tbl.lookup z = some y) : (z, y) ∈ tbl := by
  induction tbl with
  | nil => cases h
  | cons p r ih =>
    obtain ⟨k, v⟩ := p
    unfold List.lookup at h
    split at h
    · rename_i e
      cases h
      rw [eq_of_beq e]
      exact List.mem_cons_self ..
    · exact List.mem_cons_of_mem _ (ih h)
theorem KdP.of {w : World} {x : Str} {tbl : List (Str × PV)} (h : kdB K x tbl = true) (hm : mg x = some (.ref (He.ga K x))) (d : ∃ es n, L2.KDict K w (He.ga K x) es n) : KdP K w mg x tbl := by
  refine ⟨_, hm, fun z y e => ?_⟩
  have h1 := List.all_eq_true.mp h _ (lookup_mem e)
  obtain ⟨es, n, hd⟩ := d
  simp only at h1
  split at h1
  · rename_i u eu
    obtain ⟨v, r, ra⟩ := pvB_ok h1
    exact ⟨v, ⟨es, n, _, hd.at_, hd.lit, eu, r⟩, ra⟩
  · cases h1
/-! the end -/
theorem cx_end (P : Program) : ∀ (w : World) (H : Hp) (s : Shared) (e : Value) (s' : Shared), L2.CX P w [] H s (fun _ _ _ => False) e s' → False := by
  rintro w H s e s' ⟨a, B, H', cls, d, _, _, _, _, _, _, _, h⟩
  exact h
/-- a def of which nothing is promised -/
theorem bad_ok {P : Program} {w : World} {base : Heap} {f : Addr} {fd : FuncData} {CX : CXT} {ks : List Bool} {ps : List Str} {k : Nat} (hk : ks.length = ps.length) : FnOk P w K mg base CX k f fd ps (spD K TB mg ks fun _ => .bad) := by
  refine ⟨fun vs H Q E h => ?_, fun A outer s H args us vs Q E _ _ _ _ h => ?_⟩
  · obtain ⟨Z, BH, O, xs, g, ar, p⟩ := h
    exact p.elim
  · obtain ⟨Z, BH, O, xs, g, ar, p⟩ := h
    exact p.elim
end Ev

set_option Elab.async false
set_option linter.all false
set_option maxRecDepth 100000
set_option maxHeartbeats 3200000
/-! Sets of keys that can be scanned (whole numbers, texts): made of a list, told sorted. -/
namespace Gy
open PySem PySem.W PySem.Calls PyProof.Rows PySem.Spec L2
section
variable {P : Program} {w : World} {κ : Type} [DecidableEq κ] {knd : PySem.KeyKind P w κ}
def KIs (knd : PySem.KeyKind P w κ) (k : κ) (e : Int × Value) : Prop := knd.is k e.2 = true ∧ e.1 = knd.hash k ∧ e.2.scannable = true
theorem paired_perm {α β : Type} {F : α → β → Prop} {bs bs' : List β} (p : bs'.Perm bs) : ∀ {as : List α}, Paired F as bs → ∃ as' : List α, as'.Perm as ∧ Paired F as' bs' := by
  induction p with
  | nil => intro as h; exact ⟨as, .refl _, h⟩
  | cons x p ih =>
    intro as h
    cases h with
    | cons hx ht =>
      obtain ⟨as', q, r⟩ := ih ht
      exact ⟨_ :: as', q.cons _, .cons hx r⟩
  | swap x y l =>
    intro as h
    cases h with
    | cons hx ht =>
      cases ht with
      | cons hy ht => exact ⟨_, .swap .., .cons hy (.cons hx ht)⟩
  | trans p q ih1 ih2 =>
    intro as h
    obtain ⟨as1, q1, r1⟩ := ih2 h
    obtain ⟨as2, q2, r2⟩ := ih1 r1
    exact ⟨as2, q2.trans q1, r2⟩
theorem paired_left {α β : Type} {F : α → β → Prop} : ∀ {as : List α} {bs : List β}, Paired F as bs → ∀ a ∈ as, ∃ b ∈ bs, F a b
  | _, _, .nil, a, h => by cases h
  | _, _, .cons hx ht, a, h => by
    rcases List.mem_cons.mp h with rfl | h
    · exact ⟨_, List.mem_cons_self .., hx⟩
    · obtain ⟨b, hb, hf⟩ := paired_left ht a h
      exact ⟨b, List.mem_cons_of_mem _ hb, hf⟩
theorem paired_right {α β : Type} {F : α → β → Prop} : ∀ {as : List α} {bs : List β}, Paired F as bs → ∀ b ∈ bs, ∃ a ∈ as, F a b
  | _, _, .nil, a, h => by cases h
  | _, _, .cons hx ht, a, h => by
    rcases List.mem_cons.mp h with rfl | h
    · exact ⟨_, List.mem_cons_self .., hx⟩
    · obtain ⟨b, hb, hf⟩ := paired_right ht a h
      exact ⟨b, List.mem_cons_of_mem _ hb, hf⟩
theorem elems_of {ms : List κ} {l : List (Int × Value)} (h : Paired (KIs knd) ms l) : ElemsOf knd l := fun e he => by
  obtain ⟨k, _, h1, h2, h3⟩ := paired_right h e he
  exact ⟨⟨k, h1, h2⟩, h3⟩
/-- the set at a: its members, each once -/
def SK (knd : PySem.KeyKind P w κ) (h : Heap) (a : Addr) (S : List κ) : Prop :=
  ∃ o es ep t ms, h.get? a = some o ∧ o.ExactSet ∧ o.data = .set es ep t ∧ Paired (KIs knd) ms es.toList ∧ ms.Perm S ∧ S.Nodup ∧ es.size < scanBound ∧ t.fits es.size = true ∧ Ris t.place.toList ∧ (w.params.followText "set-order" = true ∨ t.led = true)
theorem SK.at_ {h h' : Heap} {a : Addr} {S : List κ} (R : SK knd h a S) (k : ∀ o, h.get? a = some o → h'.get? a = some o) : SK knd h' a S := by
  obtain ⟨o, es, ep, t, ms, ho, r⟩ := R
  exact ⟨o, es, ep, t, ms, k o ho, r⟩
theorem SK.perm {h : Heap} {a : Addr} {S S' : List κ} (R : SK knd h a S) (p : S.Perm S') : SK knd h a S' := by
  obtain ⟨o, es, ep, t, ms, ho, hx, hd, pr, pm, nd, r⟩ := R
  exact ⟨o, es, ep, t, ms, ho, hx, hd, pr, pm.trans p, p.nodup_iff.mp nd, r⟩
theorem len_of {ms : List κ} {l : List (Int × Value)} (h : Paired (KIs knd) ms l) : ms.length = l.length := Paired.length h
theorem find_of {ms : List κ} : ∀ {l : List (Int × Value)}, Paired (KIs knd) ms l → ∀ k, (∃ j, l.findIdx? (fun e => knd.is k e.2) = some j) ↔ k ∈ ms := by
  intro l h k
  constructor
  · rintro ⟨j, hj⟩
    obtain ⟨hl, pj, _⟩ := List.findIdx?_eq_some_iff_getElem.mp hj
    obtain ⟨m, hm, h1, _⟩ := paired_right h l[j] (List.getElem_mem hl)
    rw [knd.inj _ _ _ pj h1]
    exact hm
  · intro hk
    cases hf : l.findIdx? (fun e => knd.is k e.2) with
    | some j => exact ⟨j, rfl⟩
    | none =>
      obtain ⟨e, he, h1, _⟩ := paired_left h k hk
      have := List.findIdx?_eq_none_iff.mp hf e he
      rw [h1] at this
      cases this
variable {A : Around} {E : Value → Shared → Prop} {s : Shared} {a : Addr} {S : List κ}
/-- what was laid is stored; the table grows where it must -/
theorem stored {g : Bool → Sem Unit} (hg : ∀ (b : Bool) (s₁ : Shared) (Q' : Unit → Shared → Prop), Q' () s₁ → wpAny (model P w) A (g b) Q' E s₁) {o : Obj} {es : Array (Int × Value)} {ep : Nat} {t : SetTable} (ho : s.heap.get? a = some o) (hex : o.ExactSet) (hd : o.data = .set es ep t)
    {es1 : Array (Int × Value)} {t2 : SetTable} {ms S' : List κ} (p1 : Paired (KIs knd) ms es1.toList) (pm1 : ms.Perm S') (nd : S'.Nodup) (hb1 : es1.size < scanBound) (hf2 : t2.fits es1.size = true) (hr : Ris t2.place.toList) (hl : w.params.followText "set-order" = true ∨ t2.led = true) {was : Bool} {R : Option Bool → Shared → Prop}
    (hR : ∀ h', Heap.SameBut a s.heap h' → SK knd h' a S' → R (some true) { s with heap := h' }) :
    wpAny (model P w) A (do
        storeSet a es1 t2
        if (!was && t2.tooFull) = true then do
            g (relayAll t2 es1 (SetTable.grown es1.size)).2.2
            storeSet a (relayAll t2 es1 (SetTable.grown es1.size)).1 (relayAll t2 es1 (SetTable.grown es1.size)).2.1
            pure (some true)
          else pure (some true)) R E s := by
  have keep : ∀ {h : Heap} {o : Obj} {es es' : Array (Int × Value)} {ep : Nat} {t t' : SetTable}, h.get? a = some o → o.data = .set es ep t → (h.update a (Obj.putSet es' t')).get? a = some { o with data := .set es' (ep + 1) t' } := by
    intro h o es es' ep t t' e1 e2
    have q := Heap.get?_update_self (Obj.putSet es' t') e1 (by rw [putSet_of es' t' e2]; rfl)
    rw [putSet_of es' t' e2] at q
    exact q
  have u1 := Heap.SameBut.update s.heap a (Obj.putSet es1 t2)
  have ho1 := keep (es' := es1) (t' := t2) ho hd
  refine wpAny_bind (wpAny_storeSet_of ho hd ?_ (fits_of_scanBound hb1))
  by_cases hc : (!was && t2.tooFull) = true
  · rw [if_pos hc]
    have pm := relayAll_perm t2 es1 (SetTable.grown es1.size)
    have f3 := relayAll_fits t2 es1 (SetTable.grown es1.size)
    have r3 := relayAll_ris t2 es1 (SetTable.grown es1.size)
    have l3 := relayAll_led t2 es1 (SetTable.grown es1.size)
    generalize relayAll t2 es1 (SetTable.grown es1.size) = Z at pm f3 r3 l3 ⊢
    obtain ⟨es2, t3, gave⟩ := Z
    simp only at pm f3 r3 l3 ⊢
    obtain ⟨ms2, pms, p2⟩ := paired_perm pm p1
    have sz : es2.size = es1.size := by rw [← Array.length_toList, pm.length_eq, Array.length_toList]
    refine wpAny_bind (hg _ _ _ ?_)
    refine wpAny_bind (wpAny_storeSet_of ho1 rfl ?_ (fits_of_scanBound (by rw [sz]; exact hb1)))
    refine wpAny_pure (hR _ (u1.trans (Heap.SameBut.update _ a _)) ?_)
    exact ⟨_, es2, _, t3, ms2, keep ho1 rfl, hex, rfl, p2, pms.trans pm1, nd, by rw [sz]; exact hb1, f3, r3, hl.imp id fun z => by rw [l3]; exact z⟩
  · rw [if_neg hc]
    exact wpAny_pure (hR _ u1 ⟨_, es1, _, t2, ms, ho1, hex, rfl, p1, pm1, nd, hb1, hf2, hr, hl⟩)
theorem added {k : κ} {v : Value} {Q : Bool → Shared → Prop} (R : SK knd s.heap a S) (room : S.length + 1 < scanBound) (hk : knd.is k v = true) (hv : v.scannable = true)
    (hQ : ∀ h' b, Heap.SameBut a s.heap h' → SK knd h' a (if k ∈ S then S else k :: S) → Q b { s with heap := h' }) :
    wpAny (model P w) A (setAddHashed a v (knd.hash k)) Q E s := by
  obtain ⟨o, es, ep, t, ms, ho, hex, hd, pr, pm, nd, hb, hf, hr, hl⟩ := R
  have hel := elems_of pr
  have gw : ∀ (b : Bool) {s₁ : Shared} {Q' : Unit → Shared → Prop}, Q' () s₁ → wpAny (model P w) A (match b with | true => rule "set.scan.the-table-gave-way" | false => pure ()) Q' E s₁ :=
    fun b s₁ Q' q => by cases b <;> first | exact wpAny_pure q | exact wpAny_rule q
  unfold setAddHashed setAddHashedIn
  refine wpAny_holding (wpAny_bind (wpAny_setState_of ho hd hf ?_))
  simp only
  rw [byScan_of hv hb hel]
  simp only [↓reduceIte]
  unfold setAddByScan
  refine wpAny_bind ?_
  refine wpAny_bind (wpAny_rule ?_)
  refine wpAny_bind (wpAny_setScan_of hk ho hd hf hel ?_)
  cases hfi : List.findIdx? (fun e => knd.is k e.2) es.toList with
  | some j =>
    have hmem : k ∈ S := pm.mem_iff.mp ((find_of pr k).mp ⟨j, hfi⟩)
    refine wpAny_pure (wpAny_pure ?_)
    have q := hQ s.heap false (Heap.SameBut.refl a s.heap)
    rw [if_pos hmem] at q
    exact q ⟨o, es, ep, t, ms, ho, hex, hd, pr, pm, nd, hb, hf, hr, hl⟩
  | none =>
    have hno : k ∉ S := fun z => by
      obtain ⟨j, hj⟩ := (find_of pr k).mpr (pm.mem_iff.mpr z)
      rw [hfi] at hj
      cases hj
    have pn := layNew_perm t es (knd.hash k) v
    have hf1 := layNew_fits t es (knd.hash k) v
    have hr1 := layNew_ris t es (knd.hash k) v hr
    have hl1 := layNew_led t es (knd.hash k) v
    simp only
    generalize layNew t es (knd.hash k) v = Z at pn hf1 hr1 hl1 ⊢
    obtain ⟨es1, t1, was, gave⟩ := Z
    simp only at pn hf1 hr1 hl1 ⊢
    rw [Array.toList_push] at pn
    have pc : es1.toList.Perm ((knd.hash k, v) :: es.toList) := pn.trans (List.perm_append_singleton _ _)
    obtain ⟨ms1, pms, p1⟩ := paired_perm pc (Paired.cons (F := KIs knd) (a := k) ⟨hk, rfl, hv⟩ pr)
    have pS : ms1.Perm (k :: S) := pms.trans (pm.cons k)
    have nd1 : (k :: S).Nodup := List.nodup_cons.mpr ⟨hno, nd⟩
    have sz : es1.size < scanBound := by
      have e1 : es1.size = ms1.length := by rw [← Array.length_toList, ← len_of p1]
      rw [e1, pS.length_eq]
      exact room
    have led : w.params.followText "set-order" = true ∨ t1.led = true := hl.imp id fun z => by rw [hl1]; exact z
    have fin : ∀ h', Heap.SameBut a s.heap h' → SK knd h' a (k :: S) → Q true { s with heap := h' } := fun h' sb r => by
      have q := hQ h' true sb
      rw [if_neg hno] at q
      exact q r
    refine wpAny_bind (gw _ ?_)
    split
    · refine wpAny_bind ?_
      rw [hashByValue_scannable 8 hv]
      refine wpAny_pure ?_
      refine stored ?_ ho hex hd p1 pS nd1 sz ?_ ?_ ?_ ?_
      · intro b s₁ Q' q; cases b <;> first | exact wpAny_pure q | exact wpAny_rule q
      · first | (split <;> first | exact hf1 | exact SetTable.fits_plain_off hf1) | exact hf1
      · first | (split <;> exact hr1) | exact hr1
      · first | (split <;> exact led) | exact led
      · intro h' sb r; dsimp only; exact wpAny_pure (fin h' sb r)
    · refine wpAny_bind (wpAny_pure ?_)
      simp only [↓reduceIte]
      refine stored ?_ ho hex hd p1 pS nd1 sz hf1 hr1 led ?_
      · intro b s₁ Q' q; cases b <;> first | exact wpAny_pure q | exact wpAny_rule q
      · intro h' sb r; dsimp only; exact wpAny_pure (fin h' sb r)
/-! ### a list put in -/
def put (S : List κ) (k : κ) : List κ := if k ∈ S then S else k :: S
def met (ks : List κ) : List κ := ks.foldl put []
theorem met_snoc (ks : List κ) (k : κ) : met (ks ++ [k]) = put (met ks) k := by
  unfold met
  rw [List.foldl_append]
  rfl
theorem put_len (S : List κ) (k : κ) : (put S k).length ≤ S.length + 1 := by
  unfold put
  split
  · omega
  · simp
theorem fold_len : ∀ (ks S : List κ), (ks.foldl put S).length ≤ S.length + ks.length
  | [], S => by simp
  | k :: ks, S => by
    have h := fold_len ks (put S k)
    have h2 := put_len S k
    simp only [List.foldl_cons, List.length_cons]
    omega
theorem met_len (ks : List κ) : (met ks).length ≤ ks.length := by
  have h := fold_len ks []
  simpa [met] using h
theorem sk_new {h : Heap} {a : Addr} (ho : h.get? a = some { cls := .type "set", dict := none, data := .set #[] 0 (.fresh 0 0 (!w.params.followText "set-order")) }) : SK knd h a [] :=
  ⟨_, #[], 0, _, [], ho, ⟨rfl, rfl, rfl⟩, rfl, .nil, .refl _, List.nodup_nil, by decide, by rfl, List.Pairwise.nil, by
    show _ ∨ (!w.params.followText "set-order") = true
    cases w.params.followText "set-order"
    · exact .inr rfl
    · exact .inl rfl⟩
theorem walked {I : Addr} {fp wr : List Addr} {G : Array GenState → Array GenState → Prop} {n : Nat} {Pv : Nat → Value → Prop} {St : Nat → Shared → Prop} {R : Result → Shared → Prop}
    (W : WalksS P w A.in1 I fp wr G n Pv St) (D : Addr) (hD : D ∉ fp) (ks : List κ) (hn : n = ks.length) (hb : ks.length + 1 < scanBound) (hval : ∀ i v, Pv i v → ∃ k, ks[i]? = some k ∧ knd.is k v = true ∧ v.scannable = true) :
    ∀ (j i : Nat) (s : Shared), n - i = j → i ≤ n → St i s → SK knd s.heap D (met (ks.take i)) →
      (∀ s', Moved (D :: wr) G s s' → SK knd s'.heap D (met ks) → R (.ok (.ret .none)) s') →
      codeAny (model P w) A (.builtin "set.update.loop" ⟨[.ref D, .ref I], []⟩) R s := by
  have hDw : D ∉ wr := fun h => hD (W.sub _ h)
  have sub : ∀ b ∈ wr, b ∈ D :: wr := fun b hb => List.mem_cons_of_mem _ hb
  intro j
  induction j with
  | zero =>
    intro i s hj hi hst hS hR
    obtain rfl : i = n := by omega
    refine codeAny_builtin F.entry_set_update_loop ?_
    rw [Around.under_plainId F.plain_set_update_loop _]
    show wpAny _ A.in1 (pyNext (.ref I) >>= _) _ _ s
    refine wpAny_bind (W.done s _ _ hst fun s' hm => ?_)
    show wpAny _ A.in1 (ret Value.none) _ _ s'
    rw [List.take_of_length_le (by omega)] at hS
    exact wpAny_pure (hR s' (hm.mono sub) (hS.at_ fun o e => hm.heap D o hDw e))
  | succ j ih =>
    intro i s hj hi hst hS hR
    have lt : i < n := by omega
    refine codeAny_builtin F.entry_set_update_loop ?_
    rw [Around.under_plainId F.plain_set_update_loop _]
    show wpAny _ A.in1 (pyNext (.ref I) >>= _) _ _ s
    refine wpAny_bind (W.item i s _ _ lt hst fun v s' hP hst' hm => ?_)
    obtain ⟨k, hk, his, hsc⟩ := hval i v hP
    have hS' : SK knd s'.heap D (met (ks.take i)) := hS.at_ fun o e => hm.heap D o hDw e
    have room : (met (ks.take i)).length + 1 < scanBound := by
      have h1 := met_len (ks.take i)
      have h2 : (ks.take i).length ≤ ks.length := by rw [List.length_take]; omega
      omega
    show wpAny _ A.in1 (holding [v] (setAdd D v) >>= _) _ _ s'
    refine wpAny_bind (wpAny_holding ?_)
    unfold setAdd
    refine wpAny_holding ?_
    refine wpAny_bind (knd.pyHash his ?_)
    refine added (s := { s' with toks := s'.toks + 1 }) hS' room his hsc fun h' b sb hS2 => ?_
    have e : met (ks.take (i + 1)) = if k ∈ met (ks.take i) then met (ks.take i) else k :: met (ks.take i) := by
      rw [List.take_add_one, hk]
      exact met_snoc _ _
    rw [← e] at hS2
    refine wpAny_pure ⟨plainId_quiet F.plain_set_update_loop _, ih (i + 1) _ (by omega) lt (W.frame _ s' _ _ hst' (Nat.le_succ _) fun b hb o e => ?_) hS2 fun s'' hm'' hS'' => ?_⟩
    · rw [sb.2 b (fun h : b = D => hD (by rw [← h]; exact hb))]; exact e
    · refine hR s'' (Moved.trans W.gtrans ((hm.mono sub).then_heap (Nat.le_succ _) fun b o hb e => ?_) hm'') hS''
      rw [sb.2 b (fun h : b = D => hb (by rw [h]; exact List.mem_cons_self))]; exact e
/-- set(xs) of a list -/
theorem set_of_list {l : Addr} {items : Array Value} (ks : List κ) {Q : Value → Shared → Prop} (hh : A.handled = none) (hl : s.heap.IsList l items) (hit : Paired (fun k v => knd.is k v = true ∧ v.scannable = true) ks items.toList) (hb : ks.length + 1 < scanBound)
    (h : ∀ (h' : Heap) (tk : Nat), SK knd h' s.heap.objs.size (met ks) → (∀ b o, s.heap.get? b = some o → h'.get? b = some o) → Q (.ref s.heap.objs.size) { s with heap := h', toks := tk }) :
    wpAny (model P w) A (call (.type "set") [.ref l]) Q E s := by
  have isz : items.size = ks.length := by rw [← Array.length_toList, ← Paired.length hit]
  have hval : ∀ (i : Nat) (v : Value), items[i]? = some v → ∃ k, ks[i]? = some k ∧ knd.is k v = true ∧ v.scannable = true := fun i v hv => by
    have hv' : items.toList[i]? = some v := by rw [Array.getElem?_toList]; exact hv
    clear hv isz h hb hl
    generalize items.toList = L at hit hv'
    induction hit generalizing i with
    | nil => simp at hv'
    | cons hx ht ih =>
      cases i with
      | zero => simp at hv'; subst hv'; exact ⟨_, rfl, hx⟩
      | succ i =>
        obtain ⟨k, e, r⟩ := ih i (by simpa using hv')
        exact ⟨k, by simpa using e, r⟩
  generalize eN : ({ cls := .type "set", dict := none, data := .set #[] 0 (.fresh 0 0 (!w.params.followText "set-order")) } : Obj) = N
  obtain ⟨c, tl, hmro⟩ := F.called_set.mro
  have hmade := F.called_set.made
  have hsub := F.called_set.sub
  refine wpAny_call (codeAny_of_tree ?_)
  show wpAny _ _ (callAny (.type "set") _) _ _ _
  refine wpAny_pure ⟨Code.quiet_builtin _ (by decide +kernel), codeAny_builtin F.entry_type_call ?_⟩
  rw [Around.under_plain (weight_type_call_type "set" [.ref l] []) rfl]
  have h1 := F.called_set.notType
  have h2 := F.called_set.canCreate
  have hct := F.typeCall_set_1 (.ref l)
  repeat (any_goals (first | assumption | wp_step))
  refine codeAny_mono (code_set_led1 (.ref l) (E := E) (Q₁ := fun obj s₁ => obj = .ref s.heap.objs.size ∧ s₁ = { s with heap := s.heap.push N }) ⟨rfl, by rw [← eN]⟩) fun r s₁ hr => ?_
  cases r with
  | error e => exact hr
  | ok fl =>
    cases fl with
    | ret obj =>
      obtain ⟨rfl, rfl⟩ := hr
      have hS : (s.heap.push N).get? s.heap.objs.size = some N := Heap.get?_push_size _ (by rw [← eN]; rfl)
      have hT : Shared.TypeIs { s with heap := s.heap.push N } (.ref s.heap.objs.size) "set" := ⟨_, hS, by rw [← eN]⟩
      have hli := F.called_set.init.lookup
      have hbi := F.called_set.init.bind (.ref s.heap.objs.size)
      repeat (any_goals (first | assumption | wp_step))
      refine codeAny_mono (codeAny_call_builtin (R := wants (fun r s₂ => r = .none ∧ ∃ h' tk, s₂ = { s with heap := h', toks := tk } ∧ SK knd h' s.heap.objs.size (met ks) ∧
          (∀ b o, s.heap.get? b = some o → h'.get? b = some o)) E) F.called_set.init.plain F.entry_set_init (check_set_init_1 hT ?_)) fun r₂ s₂ hr₂ => ?_
      · obtain ⟨ol, hol, hcl, nl, hdl⟩ := hl
        obtain ⟨ocls, odict, odata, oslots⟩ := ol
        simp only at hcl hdl
        subst hcl; subst hdl
        have hol' : (s.heap.push N).get? l = some { cls := .type "list", dict := odict, data := .seq items nl, slots := oslots } := Heap.get?_push_of_some _ hol
        have hsls := F.sub_list_set
        have hslf := F.sub_list_frozenset
        have hne : (Value.type "list" == Value.type "dict") = false := by decide
        have hl1 : (s.heap.push N).IsList l items := ⟨_, hol', rfl, nl, rfl⟩
        have hS2 : (s.heap.push N).get? s.heap.objs.size = some { cls := .type "set", dict := none, data := .set #[] 0 (.fresh 0 0 (!w.params.followText "set-order")) } := by rw [hS, eN]
        unfold Builtin.«set.__init__» noKeywords Builtin.Frozenset.updateFrom
        generalize hPI : pyIter = PI
        wp_walk
        subst hPI
        refine wpAny_pyIter_list hl1 ?_
        refine wpAny_bind (wpAny_runValue ?_)
        have hlS : l < s.heap.objs.size := Heap.lt_size hol
        have hh3 : A.in1.in1.in1.handled = none := by simp [hh]
        have hneI : l ≠ (s.heap.push N).objs.size := by
          rw [Heap.size_push]; exact Nat.ne_of_lt (Nat.lt_succ_of_lt hlS)
        have hSf : s.heap.objs.size ∉ [(s.heap.push N).objs.size, l] := by
          rw [Heap.size_push]
          simp only [List.mem_cons, List.not_mem_nil, or_false, not_or]
          exact ⟨Nat.ne_of_lt (Nat.lt_succ_self _), Nat.ne_of_gt hlS⟩
        refine walked (knd := knd) ((Walks.list hh3 _ l hneI items).toS) s.heap.objs.size hSf ks isz hb hval (items.size - 0) 0 _ (by omega) (Nat.zero_le _)
          ⟨⟨_, Heap.get?_push_size _ rfl, rfl, rfl⟩, (hl1.push _)⟩ ?hS0 ?hR
        case hS0 => exact sk_new (Heap.get?_push_of_some _ hS2)
        case hR =>
          intro s' hm hS'
          obtain ⟨h', g2, d', tk', os'⟩ := s'
          have eg : g2 = s.gens := hm.gens
          have ed : d' = s.drawn := hm.drawn
          have eo : os' = s.os := hm.os
          subst eg; subst ed; subst eo
          show wpAny _ _ _ _ _ _
          refine wpAny_pure ?_
          show wpAny _ _ (ret Value.none) _ _ _
          refine wpAny_pure ⟨rfl, h', tk', rfl, hS', fun b o e => ?_⟩
          have hb0 : b < s.heap.objs.size := Heap.lt_size e
          have hb1 : b ≠ s.heap.objs.size := Nat.ne_of_lt hb0
          have hb2 : b ≠ (s.heap.push N).objs.size := by
            rw [Heap.size_push]; exact Nat.ne_of_lt (Nat.lt_succ_of_lt hb0)
          exact hm.heap b o (by simp only [List.mem_cons, List.not_mem_nil, or_false, not_or]; exact ⟨hb1, hb2⟩) (Heap.get?_push_of_some _ (Heap.get?_push_of_some _ e))
      · cases r₂ with
        | error e => exact hr₂
        | ok fl₂ =>
          cases fl₂ with
          | ret r =>
            obtain ⟨rfl, h', tk, rfl, hS', hk'⟩ := hr₂
            repeat (any_goals (first | assumption | wp_step))
            exact h _ _ hS' hk'
          | _ => exact hr₂.elim
    | _ => exact hr.elim
end
end Gy

set_option Elab.async false
set_option linter.all false
set_option maxRecDepth 100000
set_option maxHeartbeats 3200000
/-! sorted(set(xs)): orders, the layer's rules for whole numbers and texts. -/
namespace Gy
open PySem PySem.W PySem.Calls PyProof.Rows PySem.Spec L2
/-! ### strictly rising lists -/
structure Lin {α : Type} (lt : α → α → Bool) : Prop where
  irr : ∀ x, lt x x = false
  trans : ∀ x y z, lt x y = true → lt y z = true → lt x z = true
  tri : ∀ x y, lt x y = false → lt y x = false → x = y
section
variable {α : Type} {lt : α → α → Bool}
def insU (lt : α → α → Bool) (x : α) : List α → List α
  | [] => [x]
  | y :: ys => if lt x y then x :: y :: ys else if lt y x then y :: insU lt x ys else y :: ys
def srtU (lt : α → α → Bool) : List α → List α
  | [] => []
  | x :: xs => insU lt x (srtU lt xs)
theorem mem_insU (L : Lin lt) {x z : α} : ∀ {ys : List α}, z ∈ insU lt x ys ↔ z = x ∨ z ∈ ys
  | [] => by simp [insU]
  | y :: ys => by
    unfold insU
    split
    · simp
    · split
      · rw [List.mem_cons, mem_insU L, List.mem_cons]
        constructor
        · rintro (h | h | h) <;> simp [h]
        · rintro (h | h | h) <;> simp [h]
      · rename_i h1 h2
        have e : x = y := L.tri x y (by simpa using h1) (by simpa using h2)
        subst e
        simp
theorem mem_srtU (L : Lin lt) {z : α} : ∀ {xs : List α}, z ∈ srtU lt xs ↔ z ∈ xs
  | [] => by simp [srtU]
  | x :: xs => by
    unfold srtU
    rw [mem_insU L, mem_srtU L, List.mem_cons]
theorem insU_rises (L : Lin lt) {x : α} : ∀ {ys : List α}, ys.Pairwise (fun a b => lt a b = true) → (insU lt x ys).Pairwise (fun a b => lt a b = true)
  | [], _ => List.pairwise_singleton _ _
  | y :: ys, h => by
    obtain ⟨h1, h2⟩ := List.pairwise_cons.mp h
    unfold insU
    split
    · rename_i hc
      refine List.pairwise_cons.mpr ⟨fun z hz => ?_, h⟩
      rcases List.mem_cons.mp hz with rfl | hz
      · exact hc
      · exact L.trans _ _ _ hc (h1 z hz)
    · split
      · rename_i hc
        refine List.pairwise_cons.mpr ⟨fun z hz => ?_, insU_rises L h2⟩
        rcases (mem_insU L).mp hz with rfl | hz
        · exact hc
        · exact h1 z hz
      · exact h
theorem srtU_rises (L : Lin lt) : ∀ xs : List α, (srtU lt xs).Pairwise fun a b => lt a b = true
  | [] => .nil
  | x :: xs => insU_rises L (srtU_rises L xs)
theorem rises_eq (L : Lin lt) : ∀ {xs ys : List α}, xs.Pairwise (fun a b => lt a b = true) → ys.Pairwise (fun a b => lt a b = true) → (∀ z, z ∈ xs ↔ z ∈ ys) → xs = ys
  | [], [], _, _, _ => rfl
  | [], y :: ys, _, _, h => by have := (h y).mpr (List.mem_cons_self ..); cases this
  | x :: xs, [], _, _, h => by have := (h x).mp (List.mem_cons_self ..); cases this
  | x :: xs, y :: ys, h1, h2, h => by
    obtain ⟨a1, a2⟩ := List.pairwise_cons.mp h1
    obtain ⟨b1, b2⟩ := List.pairwise_cons.mp h2
    have no : ∀ {u v : α}, lt u v = true → lt v u = true → False := fun {u v} p q => by
      have := L.trans _ _ _ p q
      rw [L.irr] at this
      cases this
    have e : x = y := by
      have m1 := (h x).mp (List.mem_cons_self ..)
      have m2 := (h y).mpr (List.mem_cons_self ..)
      rcases List.mem_cons.mp m1 with e | m1
      · exact e
      · rcases List.mem_cons.mp m2 with e | m2
        · exact e.symm
        · exact (no (a1 y m2) (b1 x m1)).elim
    subst e
    have nx : x ∉ xs := fun m => by have := a1 x m; rw [L.irr] at this; cases this
    have ny : x ∉ ys := fun m => by have := b1 x m; rw [L.irr] at this; cases this
    rw [rises_eq L a2 b2 fun z => ?_]
    constructor
    · intro m
      rcases List.mem_cons.mp ((h z).mp (List.mem_cons_of_mem _ m)) with e | m2
      · rw [e] at m; exact absurd m nx
      · exact m2
    · intro m
      rcases List.mem_cons.mp ((h z).mpr (List.mem_cons_of_mem _ m)) with e | m2
      · rw [e] at m; exact absurd m ny
      · exact m2
end
theorem mem_met {κ : Type} [DecidableEq κ] {z : κ} : ∀ {ks : List κ}, z ∈ met ks ↔ z ∈ ks := by
  have key : ∀ (ks S : List κ), z ∈ ks.foldl put S ↔ z ∈ ks ∨ z ∈ S := by
    intro ks
    induction ks with
    | nil => intro S; simp
    | cons k ks ih =>
      intro S
      rw [List.foldl_cons, ih, List.mem_cons]
      have : z ∈ put S k ↔ z = k ∨ z ∈ S := by
        unfold put
        split
        · rename_i hm
          constructor
          · exact .inr
          · rintro (rfl | h)
            · exact hm
            · exact h
        · exact List.mem_cons
      rw [this]
      constructor
      · rintro (h | h | h) <;> simp [h]
      · rintro ((h | h) | h) <;> simp [h]
  intro ks
  unfold met
  rw [key]
  simp
theorem met_nodup {κ : Type} [DecidableEq κ] (ks : List κ) : (met ks).Nodup := by
  have key : ∀ (ks S : List κ), S.Nodup → (ks.foldl put S).Nodup := by
    intro ks
    induction ks with
    | nil => intro S h; exact h
    | cons k ks ih =>
      intro S h
      refine ih _ ?_
      unfold put
      split
      · exact h
      · exact List.nodup_cons.mpr ⟨by assumption, h⟩
  exact key ks [] List.nodup_nil
def ltI (x y : Int) : Bool := decide (x < y)
theorem lin_I : Lin ltI := ⟨fun x => by simp [ltI], fun x y z h1 h2 => by simp [ltI] at *; omega, fun x y h1 h2 => by simp [ltI] at *; omega⟩
def ltT (x y : Str) : Bool := ltCps x.cps.toList y.cps.toList
theorem ltC_asym : ∀ {a b : List Nat}, ltCps a b = true → ltCps b a = false
  | [], [], h => by cases h
  | [], _ :: _, _ => rfl
  | _ :: _, [], h => by cases h
  | x :: r, y :: t, h => by
    simp only [ltCps, Bool.or_eq_true, decide_eq_true_eq, Bool.and_eq_true, beq_iff_eq] at h
    simp only [ltCps, Bool.or_eq_false_iff, decide_eq_false_iff_not, Bool.and_eq_false_iff, beq_eq_false_iff_ne]
    rcases h with h | ⟨rfl, h⟩
    · exact ⟨by omega, .inl (by omega)⟩
    · exact ⟨by omega, .inr (ltC_asym h)⟩
theorem lin_T : Lin ltT := by
  refine ⟨fun x => Ev.ltC_irr _, fun x y z h1 h2 => ?_, fun x y h1 h2 => Ev.LeT.anti h2 h1⟩
  unfold ltT at *
  cases e : ltCps x.cps.toList z.cps.toList with
  | true => rfl
  | false =>
    have a := Ev.ltC_trans _ _ _ (ltC_asym h1) (ltC_asym h2)
    have e2 := Ev.ltC_tot _ _ e a
    rw [e2] at h1
    rw [ltC_asym h1] at h2
    cases h2
/-! ### sorted(set) of texts -/
section
variable {P : Program} {w : World} {A : Around} {E : Value → Shared → Prop} {s : Shared} {a : Addr}
theorem keep_strs {S : List Str} : ∀ {l : List (Int × Value)}, Paired (KIs (PySem.strKind P w)) S l → StrsAre (l.map (·.2)) S
  | _, .nil => .nil
  | _, .cons hx ht => by
    obtain ⟨t, e⟩ := Value.isStrOf_shape hx.1
    rw [List.map_cons, e]
    exact .cons _ t (keep_strs ht)
theorem strs_perm {vs us : List Value} (p : vs.Perm us) : ∀ {S : List Str}, StrsAre us S → ∃ S', StrsAre vs S' ∧ S'.Perm S := by
  induction p with
  | nil => intro S h; exact ⟨S, h, .refl _⟩
  | cons x p ih =>
    intro S h
    cases h with
    | cons z t ht =>
      obtain ⟨S', h1, h2⟩ := ih ht
      exact ⟨_ :: S', .cons z t h1, h2.cons _⟩
  | swap x y l =>
    intro S h
    cases h with
    | cons z t ht =>
      cases ht with
      | cons z2 t2 ht => exact ⟨_, .cons z2 t2 (.cons z t ht), .swap ..⟩
  | trans p q ih1 ih2 =>
    intro S h
    obtain ⟨S1, h1, p1⟩ := ih2 h
    obtain ⟨S2, h2, p2⟩ := ih1 h1
    exact ⟨S2, h2, p2.trans p1⟩
theorem sorted_texts {S : List Str} {Q : Value → Shared → Prop} (R : SK (PySem.strKind P w) s.heap a S) (hh : A.handled = none) (h64 : S.length < 64)
    (hQ : ∀ s' p (out : Array Value) (c : Nat) (zs : List Str), (∀ b o, s.heap.get? b = some o → s'.heap.get? b = some o) → s'.gens = s.gens → s'.os = s.os → s.heap.objs.size ≤ p →
      s'.heap.get? p = some (seqObj "list" out c) → StrsAre out.toList zs → zs.Perm S → sortedS zs = true → Q (.ref p) s') :
    wpAny (model P w) A (call (.builtin "sorted") [.ref a]) Q E s := by
  obtain ⟨o, es, ep, t, ms, ho, hex, hd, pr, pm, nd, hb, hf, hr, hl⟩ := R
  refine Calls.call_function_entry kind_sorted plain_sorted entry_sorted (args_sorted1 _) ?_
  unfold Builtin.«sorted»
  refine wpAny_bind (m := checkCount "sorted" 1 1 _) (wpAny_pure ?_)
  refine wpAny_bind (collect_set (A := A.in1) hh ⟨o, ho, hex.1, hd⟩ hf hb hr hl fun s1 vs k1 hz g1 o1 po => ?_)
  obtain ⟨S1, hS, pS⟩ := strs_perm po (keep_strs pr)
  have hvl : vs.length = S.length := by rw [StrsAre.len_eq hS, pS.length_eq, pm.length_eq]
  refine wpAny_bind (wpAny_newList ?_ (by rw [hvl, sizeLine_eq]; omega))
  have hoL : (s1.heap.push (seqObj "list" vs.toArray 0)).get? s1.heap.objs.size = some (seqObj "list" vs.toArray 0) := Heap.get?_push_size _ rfl
  refine wpAny_bind (wpAny_holding (wpAny_call_entry slot_list_sort ⟨_, hoL, rfl⟩ entry_list_sort (list_sort_treeK strKind_oneLt hoL hS.keysOf (fun v₁ v₂ rest e => keyKind_strs (by rw [← e]; exact hS)) (by rw [hvl]; exact h64) fun st' hp hs => ⟨_, rfl, ?_⟩) (args_list_sort _)))
  obtain ⟨ys, y1, y2, y3⟩ := sorted_out_str hS hp hs
  obtain ⟨c, hc⟩ := sortedHeap_at (vs := vs) (out := (arrOf st').map (·.2)) hoL
  refine wpAny_pure ⟨_, rfl, hQ _ s1.heap.objs.size ((arrOf st').map (·.2)) c ys (fun b u e => ?_) g1 o1 hz hc y1 (y2.trans (pS.trans pm)) y3⟩
  have q := k1 b u e
  have hlt := Heap.lt_size q
  show (sortedHeap (s1.heap.push (seqObj "list" vs.toArray 0)) s1.heap.objs.size vs ((arrOf st').map (·.2))).get? b = some u
  rw [sortedHeap_old (Nat.ne_of_lt hlt) (by rw [size_push']; exact Nat.lt_succ_of_lt hlt)]
  exact Heap.get?_push_of_some _ q
end
end Gy

set_option Elab.async false
set_option linter.all false
set_option maxRecDepth 100000
set_option maxHeartbeats 3200000
/-! set(xs), sorted(set): the layer's rules, on data. -/
namespace Gy
open PySem PySem.W PySem.Calls PyProof.Rows PySem.Spec L2
section
variable {P : Program} {w : World} {A : Around} {E : Value → Shared → Prop} {s : Shared} {a : Addr}
theorem int_shape {k : Int} {v : Value} (h : (intKind P w).is k v = true) : ∃ t, v = .int k t := by
  cases v with
  | int j t =>
    have e : (j == k) = true := h
    rw [eq_of_beq e]
    exact ⟨t, rfl⟩
  | _ => cases h
theorem keep_ints {S : List Int} : ∀ {l : List (Int × Value)}, Paired (KIs (intKind P w)) S l → IntsAre (l.map (·.2)) S
  | _, .nil => .nil
  | _, .cons hx ht => by
    obtain ⟨t, e⟩ := int_shape hx.1
    rw [List.map_cons, e]
    exact .cons _ t (keep_ints ht)
theorem ints_perm {vs us : List Value} (p : vs.Perm us) : ∀ {S : List Int}, IntsAre us S → ∃ S', IntsAre vs S' ∧ S'.Perm S := by
  induction p with
  | nil => intro S h; exact ⟨S, h, .refl _⟩
  | cons x p ih =>
    intro S h
    cases h with
    | cons z t ht =>
      obtain ⟨S', h1, h2⟩ := ih ht
      exact ⟨_ :: S', .cons z t h1, h2.cons _⟩
  | swap x y l =>
    intro S h
    cases h with
    | cons z t ht =>
      cases ht with
      | cons z2 t2 ht => exact ⟨_, .cons z2 t2 (.cons z t ht), .swap ..⟩
  | trans p q ih1 ih2 =>
    intro S h
    obtain ⟨S1, h1, p1⟩ := ih2 h
    obtain ⟨S2, h2, p2⟩ := ih1 h1
    exact ⟨S2, h2, p2.trans p1⟩
theorem sorted_ints {S : List Int} {Q : Value → Shared → Prop} (R : SK (intKind P w) s.heap a S) (hh : A.handled = none) (h64 : S.length < 64)
    (hQ : ∀ s' p (out : Array Value) (c : Nat) (zs : List Int), (∀ b o, s.heap.get? b = some o → s'.heap.get? b = some o) → s'.gens = s.gens → s'.os = s.os → s.heap.objs.size ≤ p →
      s'.heap.get? p = some (seqObj "list" out c) → IntsAre out.toList zs → zs.Perm S → zs.Pairwise (· ≤ ·) → Q (.ref p) s') :
    wpAny (model P w) A (call (.builtin "sorted") [.ref a]) Q E s := by
  obtain ⟨o, es, ep, t, ms, ho, hex, hd, pr, pm, nd, hb, hf, hr, hl⟩ := R
  refine Calls.call_function_entry kind_sorted plain_sorted entry_sorted (args_sorted1 _) ?_
  unfold Builtin.«sorted»
  refine wpAny_bind (m := checkCount "sorted" 1 1 _) (wpAny_pure ?_)
  refine wpAny_bind (collect_set (A := A.in1) hh ⟨o, ho, hex.1, hd⟩ hf hb hr hl fun s1 vs k1 hz g1 o1 po => ?_)
  obtain ⟨S1, hS, pS⟩ := ints_perm po (keep_ints pr)
  have hvl : vs.length = S.length := by rw [IntsAre.length hS, pS.length_eq, pm.length_eq]
  refine wpAny_bind (wpAny_newList ?_ (by rw [hvl, sizeLine_eq]; omega))
  have hoL : (s1.heap.push (seqObj "list" vs.toArray 0)).get? s1.heap.objs.size = some (seqObj "list" vs.toArray 0) := Heap.get?_push_size _ rfl
  refine wpAny_bind (wpAny_holding (wpAny_call_entry slot_list_sort ⟨_, hoL, rfl⟩ entry_list_sort (list_sort_tree hoL hS (by rw [hvl]; exact h64) fun out ns' a1 a2 a3 => ⟨_, rfl, ?_⟩) (args_list_sort _)))
  obtain ⟨c, hc⟩ := sortedHeap_at (vs := vs) (out := out) hoL
  refine wpAny_pure ⟨_, rfl, hQ _ s1.heap.objs.size out c ns' (fun b u e => ?_) g1 o1 hz hc a1 (a2.trans (pS.trans pm)) a3⟩
  have q := k1 b u e
  have hlt := Heap.lt_size q
  show (sortedHeap (s1.heap.push (seqObj "list" vs.toArray 0)) s1.heap.objs.size vs out).get? b = some u
  rw [sortedHeap_old (Nat.ne_of_lt hlt) (by rw [size_push']; exact Nat.lt_succ_of_lt hlt)]
  exact Heap.get?_push_of_some _ q
end
/-! ### the layer -/
def SO {κ : Type} [DecidableEq κ] {P : Program} {w : World} (knd : PySem.KeyKind P w κ) (a : Addr) (S : List κ) : HO := .ext fun h => SK knd h a S
theorem so_new {κ : Type} [DecidableEq κ] {P : Program} {w : World} {knd : PySem.KeyKind P w κ} {H : Hp} {h : Heap} {a : Addr} {S : List κ} (R : SK knd h a S) : ObjOk P w H h a (SO knd a S) := by
  have ⟨o, _, _, _, _, ho, _⟩ := R
  exact ⟨R, ⟨o, ho⟩, fun h1 h2 p k => SK.at_ p k⟩
theorem paired_of_strs {P : Program} {w : World} : ∀ {us : List Value} {zs : List Str}, StrsAre us zs → Paired (fun k v => (PySem.strKind P w).is k v = true ∧ v.scannable = true) zs us
  | _, _, .nil => .nil
  | _, _, .cons z t h => .cons ⟨by show Value.isStrOf z (.str z t) = true; simp [Value.isStrOf], rfl⟩ (paired_of_strs h)
theorem paired_of_ints {P : Program} {w : World} : ∀ {us : List Value} {zs : List Int}, IntsAre us zs → Paired (fun k v => (intKind P w).is k v = true ∧ v.scannable = true) zs us
  | _, _, .nil => .nil
  | _, _, .cons z t h => .cons ⟨intKind_is _ _ _ _, rfl⟩ (paired_of_ints h)
section
variable {X : Cx}
def rSetS (K : PySem.W.Frag) (P : Program) (w : World) : List V → Hp → VK → Prop := fun xs H Q => ∃ (l : Addr) (zs : List Str), xs = [.ref l] ∧ SqL K H l (zs.map V.str) ∧ zs.length < 64 ∧ ∀ p, H p = none → Q (.ref p) (upd H p (SO (PySem.strKind P w) p (met zs)))
def rSetI (K : PySem.W.Frag) (P : Program) (w : World) : List V → Hp → VK → Prop := fun xs H Q => ∃ (l : Addr) (zs : List Int), xs = [.ref l] ∧ SqL K H l (zs.map V.int) ∧ zs.length < 64 ∧ ∀ p, H p = none → Q (.ref p) (upd H p (SO (intKind P w) p (met zs)))
theorem few {n : Nat} (h : n < 64) : n + 1 < scanBound := by
  have h1 : scanBound = 4096 := rfl
  rw [h1]
  omega
theorem cr_setS (hc : X.calm = true) : CallR X (.type "set") (rSetS X.K X.prog X.w) := by
  intro pins s σ H xs us Q I r h
  obtain ⟨l, zs, rfl, hl, h64, q⟩ := h
  rw [Vals.ref1 r]
  obtain ⟨its, rv, pl, hz⟩ := I.list hl
  refine set_of_list (knd := PySem.strKind X.prog X.w) zs (I.ok.hd hc) pl.isList (by simpa using paired_of_strs rv.strs) (few h64) fun h' tk R k => ?_
  exact ⟨.ref s.heap.objs.size, upd H s.heap.objs.size (SO (PySem.strKind X.prog X.w) s.heap.objs.size (met zs)), I.laid (t' := tk) k (Nat.le_refl _) (so_new R), rfl, q _ (I.hok.fresh (Nat.le_refl _))⟩
theorem cr_setI (hc : X.calm = true) : CallR X (.type "set") (rSetI X.K X.prog X.w) := by
  intro pins s σ H xs us Q I r h
  obtain ⟨l, zs, rfl, hl, h64, q⟩ := h
  rw [Vals.ref1 r]
  obtain ⟨its, rv, pl, hz⟩ := I.list hl
  refine set_of_list (knd := intKind X.prog X.w) zs (I.ok.hd hc) pl.isList (by simpa using paired_of_ints rv.ints) (few h64) fun h' tk R k => ?_
  exact ⟨.ref s.heap.objs.size, upd H s.heap.objs.size (SO (intKind X.prog X.w) s.heap.objs.size (met zs)), I.laid (t' := tk) k (Nat.le_refl _) (so_new R), rfl, q _ (I.hok.fresh (Nat.le_refl _))⟩
def rSrtS (P : Program) (w : World) : List V → Hp → VK → Prop := fun vs H Q => ∃ (a : Addr) (S : List Str), vs = [.ref a] ∧ H a = some (SO (PySem.strKind P w) a S) ∧ S.Nodup ∧ S.length < 64 ∧ ∀ p, H p = none → Q (.ref p) (upd H p (.lst ((srtU ltT S).map V.str)))
def rSrtI (P : Program) (w : World) : List V → Hp → VK → Prop := fun vs H Q => ∃ (a : Addr) (S : List Int), vs = [.ref a] ∧ H a = some (SO (intKind P w) a S) ∧ S.Nodup ∧ S.length < 64 ∧ ∀ p, H p = none → Q (.ref p) (upd H p (.lst ((srtU ltI S).map V.int)))
theorem told {pins : List (Addr × Obj)} {s s' : Shared} {σ : L2.St} {H : Hp} {Q : VK} {p : Addr} {vs : List V} {out : Array Value} {c : Nat} (I : Inv X pins σ H s) (k : ∀ b o, s.heap.get? b = some o → s'.heap.get? b = some o) (g : s'.gens = s.gens) (o : s'.os = s.os) (hp : s.heap.objs.size ≤ p) (hg : s'.heap.get? p = some (seqObj "list" out c))
    (hv : Vals vs out.toList) (hl : vs.length ≤ sizeLine) (q : ∀ p, H p = none → Q (.ref p) (upd H p (.lst vs))) : ∃ x H1, Inv X pins σ H1 s' ∧ RelV x (.ref p) ∧ Q x H1 := by
  have hn : H p = none := I.hok.fresh hp
  have J : Inv X pins σ (upd H p (.lst vs)) { s with heap := s'.heap, gens := s'.gens, drawn := s'.drawn, toks := s'.toks } :=
    I.call (ch := []) (Un.laid k hp hn) (I.hok.laid k hp ⟨hl, out.toList, c, hv, hg⟩) (by rw [g]; exact I.bare) (fun _ z => nomatch z)
  have e : s' = { s with heap := s'.heap, gens := s'.gens, drawn := s'.drawn, toks := s'.toks } := by
    cases s'
    cases s
    cases o
    rfl
  rw [e]
  exact ⟨.ref p, _, J, rfl, q p hn⟩
theorem strict_T : ∀ {zs : List Str}, zs.Pairwise Ev.LeT → zs.Nodup → zs.Pairwise fun a b => ltT a b = true
  | [], _, _ => .nil
  | z :: zs, h, d => by
    obtain ⟨h1, h2⟩ := List.pairwise_cons.mp h
    obtain ⟨d1, d2⟩ := List.nodup_cons.mp d
    refine List.pairwise_cons.mpr ⟨fun y hy => ?_, strict_T h2 d2⟩
    cases e : ltT z y with
    | true => rfl
    | false =>
      have : z = y := Ev.LeT.anti (h1 y hy) e
      rw [this] at d1
      exact absurd hy d1
theorem cr_srtS (hc : X.calm = true) : CallR X (.builtin "sorted") (rSrtS X.prog X.w) := by
  intro pins s σ H vs us Q I r h
  obtain ⟨a, S, rfl, ha, nd, h64, q⟩ := h
  have R : SK (PySem.strKind X.prog X.w) s.heap a S := (I.hok a _ ha).1
  rw [Vals.ref1 r]
  refine sorted_texts R (I.ok.hd hc) h64 fun s' p out c zs k g o hp hg hz pz sz => ?_
  have e : zs = srtU ltT S := rises_eq lin_T (strict_T (Ev.sortedS_pw sz) (pz.nodup_iff.mpr nd)) (srtU_rises lin_T S) fun z => by rw [pz.mem_iff, mem_srtU lin_T]
  subst e
  exact told I k g o hp hg (vals_of_strs hz) (by rw [List.length_map, pz.length_eq, sizeLine_eq]; omega) q
theorem cr_srtI (hc : X.calm = true) : CallR X (.builtin "sorted") (rSrtI X.prog X.w) := by
  intro pins s σ H vs us Q I r h
  obtain ⟨a, S, rfl, ha, nd, h64, q⟩ := h
  have R : SK (intKind X.prog X.w) s.heap a S := (I.hok a _ ha).1
  rw [Vals.ref1 r]
  refine sorted_ints R (I.ok.hd hc) h64 fun s' p out c zs k g o hp hg hz pz sz => ?_
  have e : zs = srtU ltI S := rises_eq lin_I ((lt_of_le_nodup zs sz (pz.nodup_iff.mpr nd)).imp fun h => decide_eq_true h) (srtU_rises lin_I S) fun z => by rw [pz.mem_iff, mem_srtU lin_I]
  subst e
  exact told I k g o hp hg (vals_of_ints hz) (by rw [List.length_map, pz.length_eq, sizeLine_eq]; omega) q
end
end Gy

set_option Elab.async false
set_option linter.all false
set_option maxRecDepth 100000
set_option maxHeartbeats 2000000
/-! sorted(set(xs)) on data. -/
namespace Ev
open PySem PySem.Spec PyProof.Rows L2 GxR Gx Gq
variable {K : PySem.W.Frag} {Z Z' H H' BH BH' : Hp} {TB : List Addr} {F : Fx} {env env' : Env} {σ : List (Option V)} {tm ts : Tm} {O O' : List Addr} {mg : Str → Option Value} {W : WX} {Q Q' : VK} {D : Ends} {R : It → Hp → Prop}
def intsP : List PV → Option (List Int)
  | [] => some []
  | .int z :: xs => match intsP xs with
    | some zs => some (z :: zs)
    | none => none
  | _ => none
theorem ints_of {xs : List PV} {vs : List V} {A : List Addr} {zs : List Int} (r : Reps K Z H xs vs A) (h : intsP xs = some zs) : vs = zs.map V.int := by
  induction xs generalizing vs A zs with
  | nil => cases r; cases h; rfl
  | cons x xs ih =>
    cases r with
    | cons r t =>
      cases r <;> first
        | (simp only [intsP] at h
           split at h
           · rename_i ys hy
             cases h
             rw [ih t hy]
             rfl
           · cases h)
        | cases h
theorem srt_met {α : Type} [DecidableEq α] {lt : α → α → Bool} (L : Gy.Lin lt) (zs : List α) : Gy.srtU lt (Gy.met zs) = Gy.srtU lt zs :=
  Gy.rises_eq L (Gy.srtU_rises L _) (Gy.srtU_rises L _) fun z => by rw [Gy.mem_srtU L, Gy.mem_srtU L, Gy.mem_met]
def srtSetP : PV → Option PV
  | .lst _ xs => match strsP xs with
    | some zs => if zs.length < 64 then some (.lst true ((Gy.srtU Gy.ltT zs).map .str)) else none
    | none => match intsP xs with
      | some zs => if zs.length < 64 then some (.lst true ((Gy.srtU Gy.ltI zs).map .int)) else none
      | none => none
  | _ => none
/-- one more object that nobody sees, then a list -/
theorem New.lst2 {p l : Addr} {o u : HO} (g : Good TB Z BH O H) (hp : H p = none) (hl : upd H p o l = none) : New TB Z H Z [l] (upd (upd H p o) l u) := by
  have hl' : H l = none := by
    cases e : H l with
    | none => rfl
    | some v =>
      rw [upd_ne (ne_of_none e hp)] at hl
      rw [hl] at e
      cases e
  have n := New.lst (o := u) g hl'
  refine ⟨.refl, fun a v e => ?_, fun a v e => ?_, n.fr, n.nd, fun a h => .inl h, n.nz⟩
  · have h1 := g.le a v e
    rw [upd_ne (ne_of_none (show upd H p o a = some v by rw [upd_ne (ne_of_none h1 hp)]; exact h1) hl), upd_ne (ne_of_none h1 hp)]
    exact h1
  · rw [upd_ne (ne_of_none (show upd H p o a = some v by rw [upd_ne (ne_of_none e hp)]; exact e) hl), upd_ne (ne_of_none e hp)]
    exact e
theorem se_srtSet {X : Cx} {e : Expr} {o : Op} {p p2 p3 pos : Pos} (hK : X.K = K) (hc : X.calm = true) (hg : Gl X "sorted") (hm : X.mg "sorted" = none) (hg2 : Gl X "set") (hm2 : X.mg "set" = none) (he : PE X e (tOpd K TB mg W o))
    (hs : starEach [e] X.env = (false, eval e X.env) :: starEach [] X.env := by rfl) (hs2 : starEach [.Call (.Name "set" p2) [e] [] p3] X.env = (false, eval (.Call (.Name "set" p2) [e] [] p3) X.env) :: starEach [] X.env := by rfl)
    (hpl : (backTo p3 (starEach [] X.env)).any (·.1) = false := by rfl) (hpl2 : (backTo pos (starEach [] X.env)).any (·.1) = false := by rfl) :
    PE X (.Call (.Name "sorted" p) [.Call (.Name "set" p2) [e] [] p3] [] pos) (tE K TB mg W (eOp (f1 srtSetP) [o])) := by
  subst hK
  refine conv (pe_callB ((Gy.cr_srtS hc).or (Gy.cr_srtI hc)) hg hm (by decide +kernel) (pa_cons (pe_callTy ((Gy.cr_setS hc).or (Gy.cr_setI hc)) hg2 hm2 (by decide +kernel) (pa_cons he pa_nil hs) (by decide) (by decide) hs hpl) pa_nil hs2) (by decide) (by decide) hs2 hpl2) fun σ H Q q => ?_
  refine tOpd_mono (opsF (r := r1L fun v H Q => (Gy.rSetS X.K X.prog X.w [v] H fun u H2 => Gy.rSrtS X.prog X.w [u] H2 Q ∨ Gy.rSrtI X.prog X.w [u] H2 Q) ∨ (Gy.rSetI X.K X.prog X.w [v] H fun u H2 => Gy.rSrtS X.prog X.w [u] H2 Q ∨ Gy.rSrtI X.prog X.w [u] H2 Q)) (Ok1F.ok fun Z BH O H x v A z Q g r hf k => ?_) q) fun v H1 q3 => q3
  unfold srtSetP at hf
  split at hf
  · split at hf
    · rename_i zs hz
      split at hf
      · rename_i h64
        cases hf
        obtain ⟨a, vs, C, rfl, e, t⟩ := lst_at g.le r
        rw [strs_of t hz] at e
        refine .inl ⟨a, zs, rfl, SqL.of e, h64, fun p hp => .inl ⟨p, _, rfl, upd_same, Gy.met_nodup _, Nat.lt_of_le_of_lt (Gy.met_len zs) h64, fun l hl => ?_⟩⟩
        rw [srt_met Gy.lin_T]
        exact k (.ref l) _ Z [l] (New.lst2 g hp hl) (.lstO upd_same reps_strs)
      · cases hf
    · split at hf
      · rename_i zs hz
        split at hf
        · rename_i h64
          cases hf
          obtain ⟨a, vs, C, rfl, e, t⟩ := lst_at g.le r
          rw [ints_of t hz] at e
          refine .inr ⟨a, zs, rfl, SqL.of e, h64, fun p hp => .inr ⟨p, _, rfl, upd_same, Gy.met_nodup _, Nat.lt_of_le_of_lt (Gy.met_len zs) h64, fun l hl => ?_⟩⟩
          rw [srt_met Gy.lin_I]
          exact k (.ref l) _ Z [l] (New.lst2 g hp hl) (.lstO upd_same reps_ints)
        · cases hf
      · cases hf
  · cases hf
end Ev

set_option Elab.async false
set_option linter.all false
set_option maxRecDepth 100000
set_option maxHeartbeats 2000000
/-! max, min of lists; upper, lower; names added to. -/
namespace Ev
open PySem PySem.Spec PyProof.Rows L2 GxR Gx Gq
variable {K : PySem.W.Frag} {Z Z' H H' BH BH' : Hp} {TB : List Addr} {F : Fx} {env env' : Env} {σ : List (Option V)} {tm ts : Tm} {O O' : List Addr} {mg : Str → Option Value} {W : WX} {Q Q' : VK} {D : Ends} {R : It → Hp → Prop}
def maxI : List Int → Option Int
  | [] => none
  | x :: xs => match maxI xs with
    | some m => some (if x < m then m else x)
    | none => some x
theorem maxI_spec : ∀ {xs : List Int} {m : Int}, maxI xs = some m → m ∈ xs ∧ ∀ y, y ∈ xs → y ≤ m
  | [], m, h => by cases h
  | x :: xs, m, h => by
    unfold maxI at h
    cases q : maxI xs with
    | none =>
      rw [q] at h
      cases h
      cases xs with
      | nil => exact ⟨List.mem_cons_self .., fun y hy => by simp at hy; omega⟩
      | cons a r =>
        unfold maxI at q
        split at q <;> cases q
    | some n =>
      rw [q] at h
      cases h
      obtain ⟨h1, h2⟩ := maxI_spec q
      split
      · rename_i lt
        exact ⟨List.mem_cons_of_mem _ h1, fun y hy => by
          rcases List.mem_cons.mp hy with rfl | hy
          · omega
          · exact h2 y hy⟩
      · rename_i ge
        exact ⟨List.mem_cons_self .., fun y hy => by
          rcases List.mem_cons.mp hy with rfl | hy
          · omega
          · have := h2 y hy; omega⟩
def maxLP : PV → Option PV
  | .lst _ xs => match intsP xs with
    | some ns => match maxI ns with
      | some m => some (.int m)
      | none => none
    | none => none
  | _ => none
theorem ok_maxL : OkF K TB (f1 maxLP) (rMax K) := one_op fun Z BH O H x v A z Q g r hf k => by
  unfold maxLP at hf
  split at hf
  · split at hf
    · rename_i ns hn
      split at hf
      · rename_i m hm
        cases hf
        obtain ⟨a, vs, C, rfl, e, t⟩ := lst_at g.le r
        rw [ints_of t hn] at e
        obtain ⟨h1, h2⟩ := maxI_spec hm
        refine ⟨a, ns, rfl, SqL.of e, List.length_pos_of_mem h1, fun m' h3 h4 => ?_⟩
        have em : m' = m := by
          have a1 := h4 m h1
          have a2 := h2 m' h3
          omega
        rw [em]
        exact tell g (fun _ _ => .int _) k
      · cases hf
    · cases hf
  · cases hf
/-! texts -/
def upperP : PV → Option PV
  | .str z => if z.length ≤ 5592405 then some (.str (Txt.upper z)) else none
  | _ => none
theorem ok_upper : Ok1F K TB upperP (fun x H Q => ∃ a, x = .str a ∧ ([] : List V) = [] ∧ a.length ≤ 5592405 ∧ Q (.str (Txt.upper a)) H) := by
  intro Z BH O H x v A z Q g r hf k
  unfold upperP at hf
  split at hf
  · split at hf
    · rename_i h
      cases hf
      cases r
      exact ⟨_, rfl, rfl, h, tell g (fun _ _ => .str _) k⟩
    · cases hf
  · cases hf
/-! range with a step -/
def rngS (lo c : Int) (n : Nat) : List PV := (List.range n).map fun k => .int (lo + (k : Nat) * c)
theorem jok_rngS {lo c : Int} {n : Nat} : JOk K TB BH (Itc lo c n) Z (rngS lo c n) := by
  intro Z' O' H' zl g
  unfold rngS
  refine ⟨show n ≤ _ by rw [List.length_map, List.length_range] <;> exact Nat.le_refl _, fun i x e => ?_⟩
  rw [List.getElem?_map] at e
  cases q : (List.range n)[i]? with
  | none => rw [q] at e; cases e
  | some c =>
    rw [q] at e
    cases e
    have lt := lt_of_some q
    rw [List.length_range] at lt
    rw [List.getElem?_range lt] at q
    cases q
    refine ⟨lt, fun v H2 hy => ?_⟩
    obtain ⟨rfl, rfl⟩ := hy
    exact ⟨Z', New.refl g, .int _⟩
def rngIt3 : List PV → Option (List PV)
  | [.int i, .int j, .int c] => if c ≠ 0 ∧ c.natAbs < 1073741824 ∧ Builtin.Range.small i j c = true ∧ 0 ≤ Builtin.Range.rangeSize i j c then some (rngS i c (Builtin.Range.rangeSize i j c).toNat) else none
  | _ => none
theorem ok_rngIt3 : OkI K TB rngIt3 (fun vs H R => ∃ (i j c : Int) (n : Nat), vs = [.int i, .int j, .int c] ∧ RgC i j c n ∧ R (Itc i c n) H) := by
  intro Z BH O H xs vs items R g rs hf hfr k
  unfold rngIt3 at hf
  split at hf
  · split at hf
    · rename_i i j c hc
      cases hf
      cases rs with
      | cons A1 r1 t =>
        cases t with
        | cons A2 r2 t =>
          cases t with
          | cons A3 r3 t =>
            cases t
            cases r1
            cases r2
            cases r3
            exact ⟨i, j, c, (Builtin.Range.rangeSize i j c).toNat, rfl, ⟨hc.1, hc.2.1, hc.2.2.1, by have := Int.toNat_of_nonneg hc.2.2.2; omega⟩, k _ H Z (New.refl g) jok_rngS⟩
    · cases hf
  · cases hf
theorem si_range3 {X : Cx} {tg a b c : Expr} {p pos : Pos} {ops : List Op} (hg : Gl X "range") (hm : X.mg "range" = none) (ha : PA X [a, b, c] (tOpds K TB mg W ops))
    (hs : starEach [a, b, c] X.env = (false, eval a X.env) :: starEach [b, c] X.env := by rfl) (hpl : (backTo pos (starEach [b, c] X.env)).any (·.1) = false := by rfl) :
    PI X tg (.Call (.Name "range" p) [a, b, c] [] pos) (tI K TB mg W (mSrc rngIt3 ops)) := convI (pi_range3 hg hm ha hs hpl) fun σ H R q => opsI ok_rngIt3 q
/-! a name added to -/
def sAug (i : Nat) (f : Int → Int → Int) (m : M PV) : SM := fun env => match env[i]? with
  | some (some (_, .int x)) => (match m env with
    | .ok (.int y) e => (match e[i]? with
      | some (some (.io, _)) => .bad
      | some _ => .nx (e.set i (some (.own, .int (f x y))))
      | none => .bad)
    | .ok _ _ => .bad
    | .exc c xs e => .exc c xs e
    | .bad => .bad)
  | _ => .bad
theorem tS_aug {i : Nat} {f : Int → Int → Int} {m : M PV} {σ : L2.St} (h : tS K TB mg W (sAug i f m) D σ H) : tAug i (tE K TB mg W m) (ipI f) D σ H := by
  obtain ⟨F, env, tm, Z, O, s, p⟩ := h
  unfold sAug at p
  split at p
  · rename_i k x e
    obtain ⟨v, A, ev, r⟩ := s.get e
    cases r
    refine ⟨_, ev, F, env, tm, Z, O, s, ?_⟩
    cases q : m env with
    | exc c xs e => rw [q] at p; exact p σ
    | bad => rw [q] at p; exact p
    | ok y e2 =>
      rw [q] at p
      intro u H1 Z1 O1 st1 s1
      cases y with
      | int j =>
        simp only at p
        obtain ⟨A, ru⟩ := s1.top
        cases ru
        refine ⟨x, j, rfl, rfl, ?_⟩
        split at p
        · exact p.elim
        · rename_i en hn he
          obtain ⟨O2, st2, s2⟩ := s1.dropTm
          obtain ⟨O3, st3, s3⟩ := s2.setFree (e := some (.own, .int (f x j))) (v := some (.int (f x j))) (lt_of_some he) (fun z hz => hn z (by rw [hz] at he; exact (Option.some.inj he).symm)) (by
            have q : Slots K Z1 F.BH H1 [some (Kd.own, PV.int (f x j))] [some (V.int (f x j))] ([] ++ []) := .own (by decide) (.int _) .nil
            exact q)
          exact p _ _ _ _ ((st1.trans st2).trans st3) s3
        · exact p.elim
      | _ => exact p.elim
  · exact p.elim
theorem ss_aug {X : Cx} {i : Nat} {x : Str} {e : Expr} {m : M PV} {op : Operator} {f : Int → Int → Int} {pos pos' : Pos} (hN : X.N.Nodup) (hi : X.N[i]? = some x) (hx : L2.Loc X.env.scope x) (he : PE X e (tE K TB mg W m)) (ho : PIp X op (ipI f)) (hf : X.fn x = true ∨ X.env.scope.names.lookup x = some .local) :
    PS X (.AugAssign (.Name x pos') op e pos) (tS K TB mg W (sAug i f m)) := convS (ps_aug hN hi hx he ho hf) fun _ _ _ => tS_aug
end Ev

set_option Elab.async false
set_option linter.all false
set_option maxRecDepth 100000
set_option maxHeartbeats 2000000
/-! Dict comprehensions whose keys are new each time. -/
namespace Ev
open PySem PySem.Spec PyProof.Rows L2 GxR Gx Gq
variable {K : PySem.W.Frag} {Z Z' H H' BH BH' : Hp} {TB : List Addr} {F : Fx} {env env' : Env} {σ : List (Option V)} {tm ts : Tm} {O O' : List Addr} {mg : Str → Option Value} {W : WX} {Q Q' : VK} {D : Ends} {R : It → Hp → Prop}
def keyP : PV → Option Key
  | .int i => some (.inl i)
  | .str z => some (.inr z)
  | _ => none
theorem key_of {x : PV} {v : V} {A : List Addr} {k : Key} (r : Rep K Z H x v A) (h : keyP x = some k) : v = kV k ∧ A = [] := by
  cases r <;> first
    | (cases h; exact ⟨rfl, rfl⟩)
    | cases h
theorem val_none {k : Key} : ∀ {ks : List Key} {vs : List V}, k ∉ ks → valV (ks.zip vs) k = none
  | [], _, _ => rfl
  | _ :: _, [], _ => rfl
  | j :: ks, v :: vs, h => by
    have h1 : j ≠ k := fun e => h (by rw [e]; exact List.mem_cons_self ..)
    have h2 := val_none (vs := vs) (fun m => h (List.mem_cons_of_mem _ m))
    unfold valV at h2 ⊢
    rw [List.zip_cons_cons, List.find?_cons]
    simp only [decide_eq_false h1]
    exact h2
theorem Sim.putT {ks : List Key} {xs : List PV} {kp y : PV} {k : Key} {a : Addr} {u0 u : V} (s : Sim K TB F env σ (tm ++ [(.dct true ks xs, .ref a), (kp, u0), (y, u)]) Z H O) (hk : keyP kp = some k) (hn : k ∉ ks) :
    u0 = kV k ∧ ∃ kvs, H a = some (.dK kvs) ∧ kvs.length = ks.length ∧ ∃ O', Step TB Z O H Z O' (upd H a (.dK (putK kvs k u))) ∧ Sim K TB F env σ (tm ++ [(.dct true (ks ++ [k]) (xs ++ [y]), .ref a)]) Z (upd H a (.dK (putK kvs k u))) O' := by
  obtain ⟨O1, O2, rfl, s1, s2⟩ := s.splitTm
  generalize hS : tmE [(PV.dct true ks xs, V.ref a), (kp, u0), (y, u)] = E at s2
  cases s2 with
  | non v t => cases hS
  | bor h t => cases hS
  | own hk0 r t =>
    cases hS
    cases r with
    | dctO e l r =>
      rename_i vs A0
      cases t with
      | own hk1 rk t1 =>
        obtain ⟨rfl, rfl⟩ := key_of rk hk
        refine ⟨rfl, ks.zip vs, e, by rw [List.length_zip, l, Nat.min_self], ?_⟩
        cases t1 with
        | own hk2 r2 t2 =>
          cases t2
          rename_i B
          have ep : putK (ks.zip vs) k u = (ks ++ [k]).zip (vs ++ [u]) := by
            rw [putK_new u (val_none hn), List.zip_append l]
            rfl
          rw [ep]
          have g := s.good
          have nd := g.nd
          have eB : a :: A0 ++ ([] ++ (B ++ [])) = a :: (A0 ++ B) := by simp
          rw [eB] at g nd ⊢
          have na : a ∉ A0 ++ B := (List.nodup_cons.mp (List.nodup_append.mp nd).2.1).1
          have n1 : a ∉ O1 := fun m => (List.nodup_append.mp nd).2.2 a m a (List.mem_cons_self ..) rfl
          have ta : a ∉ TB := not_tb g.tb (fun ps q => by rw [e] at q; cases q)
          have za : Z a = none := g.nz a (List.mem_append_right _ (List.mem_cons_self ..))
          have ba : F.BH a = none := g.nb a (List.mem_append_right _ (List.mem_cons_self ..))
          have kp : ∀ b o, H b = some o → b ≠ a → upd H a (.dK ((ks ++ [k]).zip (vs ++ [u]))) b = some o := fun b o h n => upd_keep h n
          have zk : Le Z (upd H a (.dK ((ks ++ [k]).zip (vs ++ [u])))) := fun b o h => kp b o (g.le b o h) fun z => by rw [z, za] at h; cases h
          have bk : Le F.BH (upd H a (.dK ((ks ++ [k]).zip (vs ++ [u])))) := fun b o h => kp b o (g.lb b o h) fun z => by rw [z, ba] at h; cases h
          refine ⟨O1 ++ a :: (A0 ++ B), ⟨.refl, fun b o h n _ => kp b o h fun z => n (by rw [z]; exact List.mem_append_right _ (List.mem_cons_self ..)), fun b h => .inl h, fun b h => .inl h, fun b h => upd_dom h⟩,
            ⟨s.len, ⟨zk, g.nz, nd, fun t ht => ?_, g.tz, bk, g.nb, g.bt⟩, ?_, s.io⟩⟩
          · obtain ⟨ps, e2, tr⟩ := g.tb t ht
            exact ⟨ps, kp t _ e2 fun z => ta (z ▸ ht), tr⟩
          · have e1 : env ++ tmE (tm ++ [(PV.dct true (ks ++ [k]) (xs ++ [y]), V.ref a)]) = (env ++ tmE tm) ++ [some (Kd.own, PV.dct true (ks ++ [k]) (xs ++ [y]))] := by simp [List.append_assoc]
            have e2 : σ ++ tmV (tm ++ [(PV.dct true (ks ++ [k]) (xs ++ [y]), V.ref a)]) = (σ ++ tmV tm) ++ [some (V.ref a)] := by simp [List.append_assoc]
            rw [e1, e2]
            have rr : Rep K Z (upd H a (.dK ((ks ++ [k]).zip (vs ++ [u])))) (.dct true (ks ++ [k]) (xs ++ [y])) (.ref a) (a :: (A0 ++ B)) := .dctO upd_same (by rw [List.length_append, List.length_append, l]; rfl) ((r.snoc r2).mono .refl fun b hb o q => kp b o q fun z => na (z ▸ hb))
            have q2 : Slots K Z F.BH (upd H a (.dK ((ks ++ [k]).zip (vs ++ [u])))) [some (Kd.own, PV.dct true (ks ++ [k]) (xs ++ [y]))] [some (V.ref a)] ((a :: (A0 ++ B)) ++ []) := .own (by decide) rr .nil
            rw [List.append_nil] at q2
            exact (s1.mono .refl fun b hb o q => kp b o q fun z => n1 (z ▸ hb)).app q2
def mDc (vs : List Nat) (g : Bnd) (tt : M Bool) (tk tv : M PV) : List PV → Env → Out (List (Key × PV))
  | [], env => match wipeE env vs with
    | some e0 => .ok [] e0
    | none => .bad
  | x :: r, env => match wipeE env vs with
    | none => .bad
    | some e0 => match g x e0 with
      | none => .bad
      | some env1 => match tt env1 with
        | .ok true env2 => match tk env2 with
          | .ok kp env3 => match keyP kp with
            | some k => match tv env3 with
              | .ok y env4 => match mDc vs g tt tk tv r env4 with
                | .ok l e => .ok ((k, y) :: l) e
                | _ => .bad
              | _ => .bad
            | none => .bad
          | _ => .bad
        | .ok false env2 => mDc vs g tt tk tv r env2
        | _ => .bad
def eDc (src : Src) (vs : List Nat) (g : Bnd) (tt : M Bool) (tk tv : M PV) : M PV := fun env => match src env with
  | .ok items env1 => if vs.all (keptE env1) = true ∧ vs.Nodup then match mDc vs g tt tk tv items env1 with
      | .ok l env2 => if l.length ≤ CAP ∧ (l.map (·.1)).Nodup then .ok (.dct true (l.map (·.1)) (l.map (·.2))) (restE env1 env2 vs) else .bad
      | _ => .bad
    else .bad
  | .exc c xs env1 => .exc c xs env1
  | .bad => .bad
theorem tE_dc {src : Src} {vs is : List Nat} {g : Bnd} {tt : M Bool} {tk tv : M PV} {tg : TG} {tts : TT} {W' : WX} (og : OkG K TB is g tg) (hi : ∀ i ∈ is, i ∈ vs) (ott : ∀ σ H Q, tT K TB mg W' tt σ H Q → tts σ H Q)
    (h : tE K TB mg W (eDc src vs g tt tk tv) σ H Q) : tDc (tI K TB mg W src) tg tts (tE K TB mg W' tk) (tE K TB mg W' tv) vs σ H Q := by
  obtain ⟨F, env, tm, Z, O, s, p⟩ := h
  refine ⟨F, env, tm, Z, O, s, ?_⟩
  unfold eDc at p
  cases q : src env with
  | exc c xs env1 => rw [q] at p; exact p
  | bad => rw [q] at p; exact p
  | ok items env1 =>
    rw [q] at p
    intro J H1 Z1 O1 st sm jok Da hDa
    simp only at p
    split at p
    · rename_i hc
      obtain ⟨hkept, hnd⟩ := hc
      cases q2 : mDc vs g tt tk tv items env1 with
      | exc c xs e => rw [q2] at p; exact p.elim
      | bad => rw [q2] at p; exact p.elim
      | ok l env2 =>
        rw [q2] at p
        simp only at p
        split at p
        · rename_i hcap
          obtain ⟨hcap, hkn⟩ := hcap
          have sm0 : Sim K TB F env1 σ (tm ++ []) Z1 H1 O1 := by rw [List.append_nil]; exact sm
          obtain ⟨O2, st2, sm2⟩ := sm0.made (fr := false) (o := .dK []) (x := .dct true [] []) (Zn := Z1) hDa rfl (fun A r => by
            cases r
            exact .dctO (ks := []) (vs := []) upd_same rfl .nil)
          refine ⟨fun i m H => m = items.length - i ∧ i ≤ items.length ∧ ∃ envi σi acc Z O li, Sim K TB F envi σi (tm ++ [(.dct true (acc.map (·.1)) (acc.map (·.2)), .ref Da)]) Z H O ∧ L2.wipe σi vs = L2.wipe σ vs ∧ Le Z1 Z ∧ Step TB Z1 O1 H1 Z O H ∧
              mDc vs g tt tk tv (items.drop i) envi = .ok li env2 ∧ acc ++ li = l, ⟨_, rfl, Nat.zero_le _, env1, σ, [], Z1, O2, l, sm2, rfl, .refl, st2, q2, rfl⟩, ?_⟩
          rintro i m H3 ⟨rfl, hile, envi, σi, acc, Z3, O3, li, s3, w3, z3, st3, hm, el⟩
          obtain ⟨hst, hgo⟩ := jok Z3 O3 H3 z3 s3.good
          rcases Nat.lt_or_ge i items.length with lt | ge
          · right
            have hx : items[i]? = some items[i] := List.getElem?_eq_getElem lt
            obtain ⟨go, hy⟩ := hgo i _ hx
            rw [List.drop_eq_getElem_cons lt] at hm
            refine ⟨go, fun H' => items.length - (i + 1) = items.length - (i + 1) ∧ i + 1 ≤ items.length ∧ ∃ envi σi acc Z O li, Sim K TB F envi σi (tm ++ [(.dct true (acc.map (·.1)) (acc.map (·.2)), .ref Da)]) Z H' O ∧ L2.wipe σi vs = L2.wipe σ vs ∧ Le Z1 Z ∧ Step TB Z1 O1 H1 Z O H' ∧
              mDc vs g tt tk tv (items.drop (i + 1)) envi = .ok li env2 ∧ acc ++ li = l, fun H' hN => ⟨_, Nat.sub_succ_lt_self _ _ lt, hN⟩, fun x H' hyl => ?_⟩
            obtain ⟨Z', nw, r⟩ := hy x H' hyl
            have st4 := nw.step (O := O3)
            rw [List.append_nil] at st4
            have s4 := nw.sim0 s3
            unfold mDc at hm
            split at hm
            · cases hm
            · rename_i e0 he0
              obtain ⟨O5, st5, s5⟩ := Sim.wipe he0 s4
              rw [w3] at s5
              split at hm
              · cases hm
              · rename_i env4 hg
                refine og F e0 env4 (L2.wipe σ vs) _ Z' H' O5 _ x _ s5 r hg fun σ6 O6 u6 l6 st6 s6 => ?_
                have w6 : L2.wipe σ6 vs = L2.wipe σ vs := (wipe_sub l6 u6 hi).trans wipe_wipe
                refine ⟨w6, ott _ _ _ ⟨F, env4, _, Z', O6, s6, ?_⟩⟩
                have stA : Step TB Z1 O1 H1 Z' O6 H' := ((st3.trans st4).trans st5).trans st6
                cases qt : tt env4 with
                | exc c xs e => rw [qt] at hm; cases hm
                | bad => rw [qt] at hm; cases hm
                | ok b env5 =>
                  rw [qt] at hm
                  intro H7 Z7 O7 st7 s7
                  cases b with
                  | false =>
                    rw [if_neg Bool.false_ne_true]
                    exact ⟨rfl, lt, env5, σ6, acc, Z7, O7, li, s7, w6, z3.trans (st4.z.trans st7.z), stA.trans st7, hm, el⟩
                  | true =>
                    rw [if_pos rfl]
                    refine ⟨F, env5, _, Z7, O7, s7, ?_⟩
                    simp only at hm
                    cases qk : tk env5 with
                    | exc c xs e => rw [qk] at hm; cases hm
                    | bad => rw [qk] at hm; cases hm
                    | ok kp env6 =>
                      rw [qk] at hm
                      intro u0 H8 Z8 O8 st8 s8
                      simp only at hm
                      cases qkk : keyP kp with
                      | none => rw [qkk] at hm; cases hm
                      | some k =>
                        rw [qkk] at hm
                        refine ⟨F, env6, _, Z8, O8, s8, ?_⟩
                        simp only at hm
                        cases qe : tv env6 with
                        | exc c xs e => rw [qe] at hm; cases hm
                        | bad => rw [qe] at hm; cases hm
                        | ok y env7 =>
                          rw [qe] at hm
                          intro u H9 Z9 O9 st9 s9
                          simp only at hm
                          cases qr : mDc vs g tt tk tv (items.drop (i + 1)) env7 with
                          | exc c xs e => rw [qr] at hm; cases hm
                          | bad => rw [qr] at hm; cases hm
                          | ok l2 e2 =>
                            rw [qr] at hm
                            cases hm
                            have s9' : Sim K TB F env7 σ6 (tm ++ [(.dct true (acc.map (·.1)) (acc.map (·.2)), .ref Da), (kp, u0), (y, u)]) Z9 H9 O9 := by
                              simpa [List.append_assoc] using s9
                            have hno : k ∉ acc.map (·.1) := fun hmem => by
                              rw [← el, List.map_append, List.map_cons] at hkn
                              exact (List.nodup_append.mp hkn).2.2 k hmem k (List.mem_cons_self ..) rfl
                            obtain ⟨ek, kvs, eA, lA, O10, st10, s10⟩ := s9'.putT qkk hno
                            refine ⟨kvs, k, ek, eA, ?_, rfl, lt, env7, σ6, acc ++ [(k, y)], Z9, O10, l2, ?_, w6, z3.trans (st4.z.trans (st7.z.trans (st8.z.trans st9.z))), (((stA.trans st7).trans st8).trans st9).trans st10, qr, ?_⟩
                            · rw [lA, cap_eq, List.length_map]
                              have e1 := congrArg List.length el
                              simp only [List.length_append, List.length_cons] at e1
                              omega
                            · rw [List.map_append, List.map_append]
                              exact s10
                            · rw [← el, List.append_assoc] <;> rfl
          · left
            obtain rfl : i = items.length := Nat.le_antisymm hile ge
            refine ⟨hst, ?_⟩
            rw [List.drop_length] at hm
            unfold mDc at hm
            split at hm
            · rename_i e0 he0
              cases hm
              obtain ⟨O5, st5, s5⟩ := Sim.wipe he0 s3
              rw [w3] at s5
              obtain ⟨O6, st6, s6⟩ := Sim.rest (env1 := env1) hnd (fun v hv => kept_slots sm (List.all_eq_true.mp hkept v hv) z3) (not_io he0) s5
              rw [List.append_nil] at el
              subst el
              exact p (.ref Da) H3 Z3 O6 (st.trans ((st3.trans st5).trans st6)) s6
            · cases hm
        · exact p.elim
    · exact p.elim
end Ev

set_option Elab.async false
set_option linter.all false
set_option maxRecDepth 100000
set_option maxHeartbeats 2000000
/-! Dict comprehensions put into a name; dicts asked. -/
namespace Ev
open PySem PySem.Spec PyProof.Rows L2 GxR Gx Gq
variable {K : PySem.W.Frag} {Z Z' H H' BH BH' : Hp} {TB : List Addr} {F : Fx} {env env' : Env} {σ : List (Option V)} {tm ts : Tm} {O O' : List Addr} {mg : Str → Option Value} {W : WX} {Q Q' : VK} {D : Ends} {R : It → Hp → Prop}
theorem swd {X : Cx} {sc : Scope} {kx vx : Expr} {gs : List Comprehension} {scope : Scope} {pos py : Pos} {y : Str} {l : Nat} (h : X.env.scope = sc) (hk : sc.kind = .function) (hy : sc.names.lookup y = some .local) (hl : (py.line == pos.line) = true)
    (ha : (scope.names.any fun (n, k) => n == y && (k == .local || k == .cell)) = false) : swapsWith (.DictComp kx vx gs scope pos) (some (.Name y py)) l X.env = pure true := by
  have ky : X.env.kindOf y = some .local := by
    unfold Env.kindOf
    rw [h]
    exact hy
  have hb : X.env.blockKind = .function := by unfold Env.blockKind; rw [h, hk]; rfl
  unfold swapsWith
  simp only [hb, ky, ha, Expr.pos, hl]
  rfl
section
variable {X : Cx} {pos : Pos} {kx vx tg iter : Expr} {ifs : List Expr} {scope : Scope} {own : List (Str × Nat)}
/-- y = {k: v for ..}: the name is laid while the block stands -/
theorem ps_setDc {i : Nat} {y : Str} {py spos : Pos} {wi : TI} {g : TG} {tt : TT} {tk tv : TE} (hc : X.calm = true) (hN : X.N.Nodup) (hy : X.N[i]? = some y) (hyl : X.env.scope.names.lookup y = some .local)
    (hsw : swapsWith (.DictComp kx vx [⟨tg, iter, ifs, 0⟩] scope pos) (some (.Name y py)) spos.line X.env = pure true) (hi : PI X tg iter wi) (ok : BlkOk X.N X.env.scope scope own)
    (hg : ∀ (s : Shared) (H : Hp) (C : Addr) (cl : List (Str × Addr)) (fp : List Addr), PG (X.blk s H scope (compEnvC scope cl C X.env) fp) tg g) (ht : ∀ (s : Shared) (H : Hp) (C : Addr) (cl : List (Str × Addr)) (fp : List Addr), PTs (X.blk s H scope (compEnvC scope cl C X.env) fp) ifs tt)
    (hk : ∀ (s : Shared) (H : Hp) (C : Addr) (cl : List (Str × Addr)) (fp : List Addr), PE (X.blk s H scope (compEnvC scope cl C X.env) fp) kx tk) (he : ∀ (s : Shared) (H : Hp) (C : Addr) (cl : List (Str × Addr)) (fp : List Addr), PE (X.blk s H scope (compEnvC scope cl C X.env) fp) vx tv)
    (hs : ∀ x, foldedSetIterable iter X.env x = pure x := by intro _; rfl) :
    PS X (.Assign [.Name y py] (.DictComp kx vx [⟨tg, iter, ifs, 0⟩] scope pos) spos) (tAsg (tDc wi g tt tk tv (own.map (·.2))) (gName i)) := by
  refine ⟨fun pins s σ H D I q => ?_⟩
  rw [exec_Assign_Name_used _ _ _ _ hsw]
  refine wpAny_bind (wpAny_standAt (wpAny_bind ?_))
  show wpAny _ X.A (do let _ ← comprehension (.DictComp kx vx [⟨tg, iter, ifs, 0⟩] scope pos) scope X.env (firstIterPos [⟨tg, iter, ifs, 0⟩] pos) newDict false (eval iter X.env) (some (assign (.Name y py) X.env))) _ _ s
  have q : tDc wi g tt tk tv (own.map (·.2)) σ H (fun x H1 => gName i x σ H1 D.nx) := q
  refine wpAny_bind (thn (dc_core (Qf := fun _ s' => SP X pins D .next s') hc hN I hi ok hg ht hk he hs q fun L C s' m H' I' z hn f => ?_) fun _ s' hq => wpAny_pure (wpAny_pure hq))
  show wpAny _ _ (assign (.Name y py) X.env (.ref L)) _ _ _
  refine wpAny_assign_Name (store_ok2 (v := V.ref L) I' hN hy (.inl hyl) rfl (fun s2 I2 ⟨a, sb, ha⟩ => ?_) (.inr hyl))
  obtain ⟨f0, f1, f2, f3, f4, f5⟩ := f
  have ne : C ≠ a := by
    rcases ha with e | e
    · rw [e]; exact f1
    · exact fun e2 => f4 y a e e2.symm
  exact ⟨m, hn.sameBut sb ne, fun h3 sb3 => ⟨_, H', I2.turned (t' := s2.toks) (fun b o hb e => (sb3.2 b hb).trans e) f0 f1 f3 f4 f5, z⟩⟩
variable {is : List Nat} {src : Src} {g : Bnd} {tgg : TG} {tt : M Bool} {tts : TT} {tk tv : M PV} {W' : WX}
theorem se_dc (hc : X.calm = true) (hN : X.N.Nodup) (hi : PI X tg iter (tI K TB mg W src)) (ok : BlkOk X.N X.env.scope scope own) (og : OkG K TB is g tgg) (hin : ∀ i ∈ is, i ∈ own.map (·.2)) (ott : ∀ σ H Q, tT K TB mg W' tt σ H Q → tts σ H Q)
    (hg : ∀ (s : Shared) (H : Hp) (C : Addr) (cl : List (Str × Addr)) (fp : List Addr), PG (X.blk s H scope (compEnvC scope cl C X.env) fp) tg tgg) (ht : ∀ (s : Shared) (H : Hp) (C : Addr) (cl : List (Str × Addr)) (fp : List Addr), PTs (X.blk s H scope (compEnvC scope cl C X.env) fp) ifs tts)
    (hk : ∀ (s : Shared) (H : Hp) (C : Addr) (cl : List (Str × Addr)) (fp : List Addr), PE (X.blk s H scope (compEnvC scope cl C X.env) fp) kx (tE K TB mg W' tk)) (he : ∀ (s : Shared) (H : Hp) (C : Addr) (cl : List (Str × Addr)) (fp : List Addr), PE (X.blk s H scope (compEnvC scope cl C X.env) fp) vx (tE K TB mg W' tv))
    (hs : ∀ x, foldedSetIterable iter X.env x = pure x := by intro _; rfl) :
    PE X (.DictComp kx vx [⟨tg, iter, ifs, 0⟩] scope pos) (tE K TB mg W (eDc src (own.map (·.2)) g tt tk tv)) := conv (pe_dc hc hN hi ok hg ht hk he hs) fun _ _ _ q => tE_dc og hin ott q
theorem ss_setDc {i : Nat} {y : Str} {py spos : Pos} (hc : X.calm = true) (hN : X.N.Nodup) (hy : X.N[i]? = some y) (hyl : X.env.scope.names.lookup y = some .local)
    (hsw : swapsWith (.DictComp kx vx [⟨tg, iter, ifs, 0⟩] scope pos) (some (.Name y py)) spos.line X.env = pure true) (hi : PI X tg iter (tI K TB mg W src)) (ok : BlkOk X.N X.env.scope scope own) (og : OkG K TB is g tgg) (hin : ∀ i ∈ is, i ∈ own.map (·.2)) (ott : ∀ σ H Q, tT K TB mg W' tt σ H Q → tts σ H Q)
    (hg : ∀ (s : Shared) (H : Hp) (C : Addr) (cl : List (Str × Addr)) (fp : List Addr), PG (X.blk s H scope (compEnvC scope cl C X.env) fp) tg tgg) (ht : ∀ (s : Shared) (H : Hp) (C : Addr) (cl : List (Str × Addr)) (fp : List Addr), PTs (X.blk s H scope (compEnvC scope cl C X.env) fp) ifs tts)
    (hk : ∀ (s : Shared) (H : Hp) (C : Addr) (cl : List (Str × Addr)) (fp : List Addr), PE (X.blk s H scope (compEnvC scope cl C X.env) fp) kx (tE K TB mg W' tk)) (he : ∀ (s : Shared) (H : Hp) (C : Addr) (cl : List (Str × Addr)) (fp : List Addr), PE (X.blk s H scope (compEnvC scope cl C X.env) fp) vx (tE K TB mg W' tv))
    (hs : ∀ x, foldedSetIterable iter X.env x = pure x := by intro _; rfl) :
    PS X (.Assign [.Name y py] (.DictComp kx vx [⟨tg, iter, ifs, 0⟩] scope pos) spos) (tS K TB mg W (sAsg i (eDc src (own.map (·.2)) g tt tk tv))) := convS (ps_setDc hc hN hy hyl hsw hi ok hg ht hk he hs) fun D σ H q => tE_dc og hin ott (tS_asg q)
end
end Ev

set_option Elab.async false
set_option linter.all false
set_option maxRecDepth 100000
set_option maxHeartbeats 2000000
/-! Dicts asked: d[k], k in d. -/
namespace Ev
open PySem PySem.Spec PyProof.Rows L2 GxR Gx Gq
variable {K : PySem.W.Frag} {Z Z' H H' BH BH' : Hp} {TB : List Addr} {F : Fx} {env env' : Env} {σ : List (Option V)} {tm ts : Tm} {O O' : List Addr} {mg : Str → Option Value} {W : WX} {Q Q' : VK} {D : Ends} {R : It → Hp → Prop}
def getK : List Key → List PV → Key → Option PV
  | j :: ks, x :: xs, k => if j = k then some x else getK ks xs k
  | _, _, _ => none
theorem getK_val {k : Key} : ∀ {ks : List Key} {xs : List PV} {vs : List V} {A : List Addr}, Reps K Z H xs vs A → ks.length = vs.length →
    (∀ x, getK ks xs k = some x → ∃ v B, valV (ks.zip vs) k = some v ∧ Rep K Z H x v B) ∧ (getK ks xs k).isSome = (valV (ks.zip vs) k).isSome
  | [], xs, vs, A, r, l => ⟨(fun x h => by cases h), rfl⟩
  | j :: ks, xs, vs, A, r, l => by
    cases r with
    | nil => cases l
    | cons r t =>
      rename_i x v xs vs A1 A2
      obtain ⟨h1, h2⟩ := getK_val (k := k) t (Nat.succ.inj l)
      by_cases e : j = k
      · have ev : valV ((j :: ks).zip (v :: vs)) k = some v := by rw [List.zip_cons_cons]; exact valV_pos e
        have eg : getK (j :: ks) (x :: xs) k = some x := by simp [getK, e]
        rw [ev, eg]
        exact ⟨fun y hy => by cases hy; exact ⟨v, _, rfl, r⟩, rfl⟩
      · have ev : valV ((j :: ks).zip (v :: vs)) k = valV (ks.zip vs) k := by rw [List.zip_cons_cons]; exact valV_neg e
        have eg : getK (j :: ks) (x :: xs) k = getK ks xs k := by simp [getK, e]
        rw [ev, eg]
        exact ⟨h1, h2⟩
theorem dct_at {x : PV} {o : Bool} {ks : List Key} {xs : List PV} {v : V} {A : List Addr} (lz : Le Z H) (hx : x = .dct o ks xs) (r : Rep K Z H x v A) : ∃ a vs B, v = .ref a ∧ H a = some (.dK (ks.zip vs)) ∧ ks.length = vs.length ∧ Reps K Z H xs vs B := by
  cases r <;> cases hx
  · rename_i e l r
    exact ⟨_, _, _, rfl, lz _ _ e, l, r⟩
  · rename_i e l r
    exact ⟨_, _, _, rfl, e, l, r⟩
def dgetP : PV → PV → Option PV
  | .dct _ ks xs, y => match keyP y with
    | some k => match getK ks xs k with
      | some x => if x.free then some x else none
      | none => none
    | none => none
  | _, _ => none
theorem ok_dget : Ok2F K TB dgetP (fun x y H Q => ∃ a v, x = .ref a ∧ DGet H a y (some v) ∧ Q v H) := by
  intro Z BH O H x y v w A B z Q g r1 r2 hf k
  unfold dgetP at hf
  split at hf
  · split at hf
    · rename_i kk hk
      split at hf
      · rename_i xx hxx
        split at hf
        · rename_i hfr
          cases hf
          obtain ⟨a, vs, C, rfl, e, l, t⟩ := dct_at g.le rfl r1
          obtain ⟨rfl, _⟩ := key_of r2 hk
          obtain ⟨u, B2, e2, ru⟩ := (getK_val t l).1 _ hxx
          refine ⟨a, u, rfl, by rw [← e2]; exact DGet.k e, ?_⟩
          rw [ru.nil_of_free hfr] at ru
          exact tellF g ru k
        · cases hf
      · cases hf
    · cases hf
  · cases hf
def dinP (neg : Bool) : PV → PV → Option PV
  | y, .dct _ ks xs => match keyP y with
    | some k => some (.bl (if neg then !(getK ks xs k).isSome else (getK ks xs k).isSome))
    | none => none
  | _, _ => none
def rDin (neg : Bool) : R2 := fun y x H Q => ∃ a o, x = .ref a ∧ DGet H a y o ∧ Q (.bl (if neg then !o.isSome else o.isSome)) H
theorem ok_din {neg : Bool} : Ok2F K TB (dinP neg) (rDin neg) := by
  intro Z BH O H x y v w A B z Q g r1 r2 hf k
  unfold dinP at hf
  split at hf
  · split at hf
    · rename_i kk hk
      cases hf
      obtain ⟨a, vs, C, rfl, e, l, t⟩ := dct_at g.le rfl r2
      obtain ⟨rfl, _⟩ := key_of r1 hk
      refine ⟨a, _, rfl, DGet.k e, ?_⟩
      rw [← (getK_val t l).2]
      exact tell g (fun _ _ => .bl _) k
    · cases hf
  · cases hf
theorem op_din {X : Cx} (hu : X.A.units + 64 < cLine) : OpR X (compareOp .In) (rDin false) := by
  intro pins s σ H x y v u Q I rx ry h
  obtain ⟨a, o, rfl, g, q⟩ := h
  cases ry
  exact d_in (by omega) I g rx fun s' I' => ⟨.bl o.isSome, H, I', rfl, q⟩
theorem op_dni {X : Cx} (hu : X.A.units + 64 < cLine) : OpR X (compareOp .NotIn) (rDin true) := by
  intro pins s σ H x y v u Q I rx ry h
  obtain ⟨a, o, rfl, g, q⟩ := h
  cases ry
  exact d_notIn (by omega) I g rx fun s' I' => ⟨.bl (!o.isSome), H, I', rfl, q⟩
/-- in: also in a dict -/
def inQ (neg : Bool) : PV → PV → Option PV := orF (inP neg) (dinP neg)
theorem f2_orF {f g : PV → PV → Option PV} : ∀ xs : List PV, f2 (orF f g) xs = match f2 f xs with
    | some z => some z
    | none => f2 g xs
  | [] => rfl
  | [_] => rfl
  | [_, _] => rfl
  | _ :: _ :: _ :: _ => rfl
/-- one of two ways -/
theorem tE_orF {f g : PV → PV → Option PV} {ops : List Op} (h : tE K TB mg W (eOp (f2 (orF f g)) ops) σ H Q) : tE K TB mg W (eOp (f2 f) ops) σ H Q ∨ tE K TB mg W (eOp (f2 g) ops) σ H Q := by
  obtain ⟨F, env, tm, Z, O, s, p⟩ := h
  unfold eOp at p
  cases q : evOps ops env with
  | exc c xs e => rw [q] at p; exact .inl ⟨F, env, tm, Z, O, s, by unfold eOp; rw [q]; exact p⟩
  | bad => rw [q] at p; exact p.elim
  | ok l e =>
    rw [q] at p
    simp only [Out.bind] at p
    cases ql : look ops l e with
    | none => rw [ql] at p; exact p.elim
    | some xs =>
      rw [ql] at p
      simp only at p
      cases qf : f2 f xs with
      | some z =>
        refine .inl ⟨F, env, tm, Z, O, s, ?_⟩
        unfold eOp
        rw [q]
        simp only [Out.bind]
        rw [ql]
        simp only
        rw [qf]
        have e2 : f2 (orF f g) xs = some z := by rw [f2_orF, qf]
        rw [e2] at p
        exact p
      | none =>
        refine .inr ⟨F, env, tm, Z, O, s, ?_⟩
        unfold eOp
        rw [q]
        simp only [Out.bind]
        rw [ql]
        simp only
        have e2 : f2 (orF f g) xs = f2 g xs := by rw [f2_orF, qf]
        rw [e2] at p
        exact p
theorem pe_either {X : Cx} {e : Expr} {t u : TE} (h : PE X e t) (h' : PE X e u) : PE X e (fun σ H Q => t σ H Q ∨ u σ H Q) := by
  refine ⟨fun pins s σ H Q I q => ?_⟩
  rcases q with q | q
  · exact h.run pins s σ H Q I q
  · exact h'.run pins s σ H Q I q
def itemQ : PV → PV → Option PV := orF itemP dgetP
theorem se_ixQ {X : Cx} {a b : Expr} {oa ob : Op} {pos : Pos} (hK : X.K = K) (hu : X.A.units + 64 < cLine) (ha : PE X a (tOpd K TB mg W oa)) (hb : PE X b (tOpd K TB mg W ob)) (hs : PlainIx b) (hn : NoSl b) : PE X (.Subscript a b pos) (tE K TB mg W (eOp (f2 itemQ) [oa, ob])) := by
  subst hK
  refine conv (pe_either (pe_ix ix_seq ha hb hs) (pe_dget (by omega) ha hb hn)) fun σ H Q q => ?_
  rcases tE_orF q with q | q
  · exact .inl (opsF ok_item.ok q)
  · exact .inr (opsF ok_dget.ok q)
end Ev

set_option Elab.async false
set_option linter.all false
set_option maxRecDepth 100000
set_option maxHeartbeats 2000000
/-! Comprehensions put into names that others capture. -/
namespace Ev
open PySem PySem.Spec PyProof.Rows L2 GxR Gx Gq
theorem swlC {X : Cx} {sc : Scope} {elt : Expr} {gs : List Comprehension} {scope : Scope} {pos py : Pos} {y : Str} {l : Nat} (h : X.env.scope = sc) (hk : sc.kind = .function) (hy : sc.names.lookup y = some .cell) :
    swapsWith (.ListComp elt gs scope pos) (some (.Name y py)) l X.env = pure false := by
  have ky : X.env.kindOf y = some .cell := by
    unfold Env.kindOf
    rw [h]
    exact hy
  have hb : X.env.blockKind = .function := by unfold Env.blockKind; rw [h, hk]; rfl
  unfold swapsWith
  simp only [hb, ky]
  rfl
theorem swdC {X : Cx} {sc : Scope} {kx vx : Expr} {gs : List Comprehension} {scope : Scope} {pos py : Pos} {y : Str} {l : Nat} (h : X.env.scope = sc) (hk : sc.kind = .function) (hy : sc.names.lookup y = some .cell) :
    swapsWith (.DictComp kx vx gs scope pos) (some (.Name y py)) l X.env = pure false := by
  have ky : X.env.kindOf y = some .cell := by
    unfold Env.kindOf
    rw [h]
    exact hy
  have hb : X.env.blockKind = .function := by unfold Env.blockKind; rw [h, hk]; rfl
  unfold swapsWith
  simp only [hb, ky]
  rfl
end Ev

set_option Elab.async false
set_option linter.all false
set_option maxRecDepth 100000
set_option maxHeartbeats 2000000
/-! Defs that run where no guard stands around (repr of data): their contracts, the law's end. -/
namespace Gr
open PySem PySem.Spec PyProof.Rows L2 GxR Gx
/-- FnOk for callers with no guard around -/
structure FnG (P : Program) (w : World) (K : PySem.W.Frag) (mg : Str → Option Value) (base : Heap) (k : Nat) (f : Addr) (fd : FuncData) (ps : List Str) (sp : Sp) : Prop where
  len : ∀ vs H Q E, sp vs H Q E → vs.length = ps.length
  run : ∀ (A : Around) (outer : List Env) (s : Shared) (H : Hp) (args : Args) (us : List Value) (vs : List V) (Q : VK) (E : XK), A.guards = some [] → Room k A → Env0 P w K mg base A outer s H → BindsTo s fd args (ps.zip us) → Vals vs us → sp vs H Q E →
    codeAny (model P w) A (.call (.ref f) args) (CR CX0 outer P w H s Q E) s
section
variable {P : Program} {w : World} {K : PySem.W.Frag} {mg : Str → Option Value} {base : Heap} {x qual : Str} {params : Arguments} {body : List Stmt} {scope : Scope} {dvs : List V} {kws : List (Str × V)} {N ps : List Str} {k : Nat} {sp : Sp}
theorem okG {f : Addr} {fd : FuncData} (F : FunD K x qual params body scope dvs kws f fd) (S : FnScope N ps scope) (len : ∀ vs H Q E, sp vs H Q E → vs.length = ps.length)
    (hbody : ∀ (c : Value) (A : Around) (outer : List Env) (s : Shared) (H : Hp) (vs : List V) (Q : VK) (E : XK), (A.deeper (envOfC qual scope s.heap.objs.size f c)).guards = some [] → Room k (A.deeper (envOfC qual scope s.heap.objs.size f c)) → sp vs H Q E →
      ∃ t, PSs (cxOf CX0 P w K mg base N qual scope f c A outer s H E).nox body t ∧ t { nx := fun _ H' => Q .non H', rt := Q } (start N vs) H) : FnG P w K mg base (k + 1) f fd ps sp := by
  obtain ⟨oc, od, dV, kV, doc, pm, an, cdv, ct, osl, rfl, lk, hcd, _, _⟩ := F.ex
  refine ⟨len, fun A outer s H args us vs Q E hgd hr e0 hb r hsp => ?_⟩
  have KX : K.In s.heap := e0.mod.kin.keeps fun b o e => (e0.bs b o e).1
  have kinds : ∀ y ∈ ps.zip us, scope.names.lookup y.1 = some .local ∨ (scope.names.lookup y.1 = some .cell ∧ ((cellsFrom (s.heap.objs.size + 1) scope.names []).lookup y.1).isSome = true) := by
    rintro ⟨n, v⟩ hy
    exact (S.par n (List.of_mem_zip hy).1).imp_right fun q => ⟨q, PySem.W.cellsFrom_some _ _ _ (.inl q)⟩
  refine codeAny_call_function hr.depth (KX _ _ lk) rfl S.co S.gen rfl (PySem.W.codeRec_of KX hcd) (hb _ _ _ _ (wpAny_newFunctionEnv_cells S.kind kinds fun env he s1 x => ?_))
  subst he
  refine ⟨(e0.mod.nolimit.keeps fun b o e => (e0.bs b o e).1).keeps x.toInCall.keep, codeAny_func ?_⟩
  obtain ⟨t, ht, hq⟩ := hbody cdv A outer s H vs Q E hgd (hr.deeper _) hsp
  have I : L2.Inv (cxOf CX0 P w K mg base N qual scope f cdv A outer s H E) [] (start N vs) H s1 := inv_start S hr.hd e0 (len _ _ _ _ hsp) r x
  refine wpAny_mono (ht.nox.run [] s1 (start N vs) H _ I hq) (fun fl s' hs => ?_) fun e s' hs => hs
  cases fl with
  | ret u =>
    obtain ⟨v, σ', H', J, rv, q⟩ := hs
    exact ⟨v, H', J.os, J.bare, J.base, J.hok, rv, q⟩
  | next =>
    obtain ⟨σ', H', J, q⟩ := hs
    exact ⟨.non, H', J.os, J.bare, J.base, J.hok, rfl, q⟩
  | brk => exact hs.elim fun _ h => h.elim fun _ h => h.2.elim
  | cont => exact hs.elim fun _ h => h.elim fun _ h => h.2.elim
end
/-- repr of data -/
theorem call_reprD {X : Cx} (hgd : X.A.guards = some []) (hu : X.A.units + 70 < cLine) : CallR X (.builtin "repr") (fun xs H Q => ∃ (a : Addr) (d : PyData), xs = [.ref a] ∧ Dp X.K H (.ref a) d ∧ d.showable = true ∧ d.hasDict = false ∧ d.depth ≤ 64 ∧ d.shown.length ≤ sizeLine ∧ Q (.str d.shown) H) := by
  intro pins s σ H xs us Q I r h
  obtain ⟨a, d, rfl, hd, hs, hn, hdep, hz, q⟩ := h
  obtain ⟨u, rfl, ru⟩ := vals1 r
  cases (show u = Value.ref a from ru)
  obtain ⟨as, R⟩ := Dp.reads I d _ _ hd rfl
  refine repr_of_reads' R hs (fun z => by rw [hn] at z; cases z) hgd (by omega) (fun _ _ e => e) (fun h' u tk kp => ?_) hz
  exact ⟨.str d.shown, H, I.kept (t' := tk) kp, ⟨u, rfl⟩, q⟩
theorem call_reprS {X : Cx} : CallR X (.builtin "repr") (fun xs H Q => ∃ z : Str, xs = [.str z] ∧ (reprText z).length ≤ sizeLine ∧ Q (.str (reprText z)) H) := by
  intro pins s σ H xs us Q I r h
  obtain ⟨z, rfl, hz, q⟩ := h
  obtain ⟨u, rfl, t, rfl⟩ := vals1 r
  exact P.repr_of_str ⟨.str _, H, I.tok _, ⟨_, rfl⟩, q⟩ hz
theorem call_reprN {X : Cx} : CallR X (.builtin "repr") (fun xs H Q => xs = [.non] ∧ Q (.str "None") H) := by
  intro pins s σ H xs us Q I r h
  obtain ⟨rfl, q⟩ := h
  obtain ⟨u, rfl, ru⟩ := vals1 r
  cases (show u = Value.none from ru)
  exact P.repr_of_none ⟨.str _, H, I.tok _, ⟨_, rfl⟩, q⟩
end Gr

set_option Elab.async false
set_option linter.all false
set_option maxRecDepth 100000
set_option maxHeartbeats 2000000
/-! Defs that run where no guard stands around: repr of data. -/
namespace Ev
open PySem PySem.Spec PyProof.Rows L2 GxR Gx Gq
variable {K : PySem.W.Frag} {Z Z' H H' BH BH' : Hp} {TB : List Addr} {F : Fx} {env env' : Env} {σ : List (Option V)} {tm ts : Tm} {O O' : List Addr} {mg : Str → Option Value} {W : WX} {Q Q' : VK} {D : Ends} {R : It → Hp → Prop}
def WF : WX := fun _ _ _ _ => False
def spG (K : PySem.W.Frag) (TB : List Addr) (mg : Str → Option Value) (ks : List Bool) (den : List PV → DOut) : Sp := fun vs H Q _ => spD K TB mg ks den vs H Q fun _ _ _ => False
section
variable {P : Program} {w : World} {base : Heap} {x qual : Str} {params : Arguments} {body : List Stmt} {scope : Scope} {dvs : List V} {kws : List (Str × V)} {N ps : List Str} {k : Nat}
theorem okDG {f : Addr} {fd : FuncData} {ks : List Bool} {m : SM} (Fd : FunD K x qual params body scope dvs kws f fd) (S : FnScope N ps scope) (hk : ks.length = ps.length)
    (hbody : ∀ (X : Cx), X.prog = P → X.w = w → X.K = K → X.mg = mg → X.base = base → X.N = N → X.calm = true → X.env.scope = scope → (∀ x, X.fn x = true) → X.A.guards = some [] → Room k X.A → Takes X WF → PassesOwn (model X.prog X.w) X.A X.env X.xe →
      PSs X body (tS K TB mg WF m)) : Gr.FnG P w K mg base (k + 1) f fd ps (spG K TB mg ks (runD N.length ks m)) := by
  refine Gr.okG Fd S (fun vs H Q E h => ?_) fun c A outer s H vs Q E hgd hr hsp => ?_
  · obtain ⟨Z, BH, O, xs, g, ar, p⟩ := h
    rw [← ar.len, hk]
  · refine ⟨_, hbody _ rfl rfl rfl rfl rfl rfl rfl rfl (fun _ => rfl) hgd hr LamX.takes0 PassesOwn.never, ?_⟩
    exact tS_body (E := fun _ _ _ => False) hsp
end
/-! repr -/
def reprP (x : PV) : Option PV := match x with
  | .non => some (.str "None")
  | .int i => if i.natAbs.log2 < 1920 then some (.str (toString i)) else none
  | .str z => if (reprText z).length ≤ CAP then some (.str (reprText z)) else none
  | .bl _ => none
  | x => match x.dat with
    | some d => if d.showable = true ∧ d.hasDict = false ∧ d.depth ≤ 64 ∧ d.shown.length ≤ CAP then some (.str d.shown) else none
    | none => none
def rReprP (K : PySem.W.Frag) : List V → Hp → VK → Prop := fun xs H Q => (∃ (a : Addr) (d : PyData), xs = [.ref a] ∧ Dp K H (.ref a) d ∧ d.showable = true ∧ d.hasDict = false ∧ d.depth ≤ 64 ∧ d.shown.length ≤ sizeLine ∧ Q (.str d.shown) H) ∨
  ((∃ z : Str, xs = [.str z] ∧ (reprText z).length ≤ sizeLine ∧ Q (.str (reprText z)) H) ∨ ((xs = [.non] ∧ Q (.str "None") H) ∨ ∃ i, xs = [.int i] ∧ i.natAbs.log2 < 1920 ∧ Q (.str (toString i)) H))
theorem call_reprP {X : Cx} (hgd : X.A.guards = some []) (hu : X.A.units + 70 < cLine) : CallR X (.builtin "repr") (rReprP X.K) := (Gr.call_reprD hgd hu).or (Gr.call_reprS.or (Gr.call_reprN.or SkE.call_repr_int))
theorem ok_repr : OkF K TB (f1 reprP) (rReprP K) := one_op fun Z BH O H x v A z Q g r hf k => by
  unfold reprP at hf
  split at hf
  · cases hf
    cases r
    exact .inr (.inr (.inl ⟨rfl, tell g (fun _ _ => .str _) k⟩))
  · split at hf
    · rename_i hi
      cases hf
      cases r
      exact .inr (.inr (.inr ⟨_, rfl, hi, tell g (fun _ _ => .str _) k⟩))
    · cases hf
  · split at hf
    · rename_i hz
      cases hf
      cases r
      exact .inr (.inl ⟨_, rfl, by rw [cap_eq]; exact hz, tell g (fun _ _ => .str _) k⟩)
    · cases hf
  · cases hf
  · rename_i h1 h2 h3 h4
    split at hf
    · rename_i d hd
      split at hf
      · rename_i hc
        cases hf
        have dp := r.dp g.le hd
        have rf : ∃ a, v = .ref a := by
          cases r <;> first
            | exact ⟨_, rfl⟩
            | exact absurd rfl (h1)
            | exact absurd rfl (h2 _)
            | exact absurd rfl (h3 _)
            | exact absurd rfl (h4 _)
        obtain ⟨a, rfl⟩ := rf
        exact .inl ⟨a, d, rfl, dp, hc.1, hc.2.1, hc.2.2.1, by rw [cap_eq]; exact hc.2.2.2, tell g (fun _ _ => .str _) k⟩
      · cases hf
    · cases hf
theorem hu70 {k : Nat} {A : Around} (r : Room k A) : A.units + 70 < cLine := by
  have := r.un
  omega
end Ev

set_option Elab.async false
set_option linter.all false
set_option maxRecDepth 100000
set_option maxHeartbeats 2000000
/-! The end of a law whose defs ask that no guard stands around. -/
namespace Gr
open PySem PySem.Spec PyProof.Rows L2 GxR Gx
/-- what is tracked at the start: the tables, and the script where the head doesn't hold it -/
def begun (K : PySem.W.Frag) (T : List Addr) (a : Addr) (o : Obj) (xs : List V) : Hp := fun b => if b ∈ T then some (.tbl #[]) else if b = a ∧ K.lookup a = none then some (.frz o (.lst xs)) else none
theorem begun_says {K : PySem.W.Frag} {T : List Addr} {a b : Addr} {o : Obj} {xs : List V} {u : HO} (h : begun K T a o xs b = some u) : (b ∈ T ∧ u = .tbl #[]) ∨ (b = a ∧ K.lookup a = none ∧ u = .frz o (.lst xs)) := by
  by_cases h1 : b ∈ T
  · exact .inl ⟨h1, Option.some.inj (h.symm.trans (if_pos h1))⟩
  · have h2 := h.symm.trans (if_neg h1)
    by_cases h3 : b = a ∧ K.lookup a = none
    · exact .inr ⟨h3.1, h3.2, Option.some.inj (h2.trans (if_pos h3))⟩
    · cases h2.trans (if_neg h3)
theorem law_callG {P : Program} {w : World} {K : PySem.W.Frag} {mg mb : Str → Option Value} {k : Nat} {fa a : Addr} {cs : List (Addr × Addr)} {fd : FuncData} {x : Str} {sp : Sp} {s₁ : Shared} {vs : List Value} {ns : List Int}
    (KX : K.In s₁.heap) (hns : s₁.heap.Ns mainGlobals mg) (hb : s₁.heap.Ns builtinsNs mb) (hbb : ∀ x : Str, x ≠ "__name__" → mb x = bootBuiltins x) (hlim : s₁.heap.NoLimit) (hg : s₁.gens = #[])
    (hT : ∀ p ∈ cs, s₁.heap.get? p.2 = some { cls := .none, data := .fields #[] }) (nT : ∀ p ∈ cs, K.lookup p.2 = none) (C : ∀ p ∈ cs, PySem.W.CodeHd s₁.heap p.1 p.2)
    (hbm : ∃ (bm : Addr) (ob : Obj), mg "__builtins__" = some (.ref bm) ∧ bm ≠ builtinsNs ∧ s₁.heap.get? bm = some ob ∧ ob.cls = .type "module" ∧ ob.dict = some builtinsNs ∧ ob.data = .plain)
    (ha : s₁.heap.get? a = some { cls := .type "list", data := .seq vs.toArray }) (hi : IntsAre vs ns) (hl : ns.length ≤ sizeLine) (hr : Room k callerA)
    (F : ∀ base : Heap, K.In base → base.Ns mainGlobals mg → (∀ p ∈ cs, GxR.TabB base mg p.1 p.2) → FnG P w K mg base k fa fd [x] sp) (hbind : ∀ (s : Shared) (u : Value), BindsTo s fd ⟨[u], []⟩ [(x, u)])
    (hsp : ∀ H : Hp, (∀ p ∈ cs, H p.2 = some (.tbl #[])) → SqL K H a (ns.map V.int) → sp [.ref a] H (fun v _ => v = .bl true) fun _ _ _ => False) :
    codeAny (model P w) callerA (.call (.ref fa) ⟨[.ref a], []⟩) (fun r s' => r = .ok (.ret (.bool true)) ∧ OldK s₁.heap s'.heap ∧ s'.os = s₁.os ∧ AllBare s'.gens) s₁ := by
  have rv := vals_ints hi
  -- the tables
  have inT : ∀ p ∈ cs, p.2 ∈ cs.map (·.2) := fun p hp => List.mem_map_of_mem hp
  have ofT : ∀ b ∈ cs.map (·.2), ∃ p ∈ cs, p.2 = b := fun b hb => List.mem_map.mp hb
  have empty : ∀ b ∈ cs.map (·.2), s₁.heap.get? b = some { cls := .none, data := .fields #[] } := fun b hb => by
    obtain ⟨p, hp, rfl⟩ := ofT b hb
    exact hT p hp
  have aT : a ∉ cs.map (·.2) := fun z => by
    have q := ha.symm.trans (empty a z)
    cases congrArg Obj.data (Option.some.inj q)
  obtain ⟨H, eH⟩ : ∃ H, H = begun K (cs.map (·.2)) a { cls := .type "list", data := .seq vs.toArray } (ns.map V.int) := ⟨_, rfl⟩
  have says : ∀ {b : Addr} {u : HO}, H b = some u → (b ∈ cs.map (·.2) ∧ u = .tbl #[]) ∨ (b = a ∧ K.lookup a = none ∧ u = .frz { cls := .type "list", data := .seq vs.toArray } (.lst (ns.map V.int))) := fun h => begun_says (by rw [eH] at h; exact h)
  have hH : ∀ p ∈ cs, H p.2 = some (.tbl #[]) := fun p hp => by rw [eH]; exact if_pos (inT p hp)
  have len : (ns.map V.int).length ≤ sizeLine := by rw [List.length_map]; exact hl
  have hS : SqL K H a (ns.map V.int) := by
    cases hk : K.lookup a with
    | none => exact .inl (.inr ⟨_, by rw [eH]; exact (if_neg aT).trans (if_pos ⟨rfl, hk⟩)⟩)
    | some o =>
      have e := KX a o hk
      rw [ha] at e
      cases e
      exact .inr ⟨_, vs.toArray, _, hk, rfl, rfl, rfl, by rw [List.size_toArray, hi.length]; exact hl, by simpa using rv⟩
  have hok : HOk P w H s₁.heap := fun b u h => by
    rcases says h with ⟨h1, rfl⟩ | ⟨rfl, _, rfl⟩
    · exact empty b h1
    · exact ⟨ha, len, vs, _, rv, ha⟩
  -- what is neither a list nor a table is not tracked
  have other : ∀ {b : Addr} {o : Obj}, s₁.heap.get? b = some o → (∀ vs n, o.data ≠ .seq vs n) → o.data ≠ .fields #[] → H b = none := fun {b o} e h1 h2 => by
    cases q : H b with
    | none => rfl
    | some u =>
      rcases says q with ⟨h3, _⟩ | ⟨rfl, _, _⟩
      · cases e.symm.trans (empty b h3)
        exact absurd rfl h2
      · cases e.symm.trans ha
        exact absurd rfl (h1 _ _)
  have dict : ∀ {b : Addr} {o : Obj} {es : Array DictEntry} {ep : Nat}, s₁.heap.get? b = some o → o.data = .dict es ep → H b = none := fun e d => by
    refine other e (fun _ _ z => ?_) fun z => ?_
    · cases d.symm.trans z
    · cases d.symm.trans z
  have names : ∀ {b : Addr} {m : Str → Option Value}, s₁.heap.Ns b m → (hidT s₁.heap H).Ns b m := fun ⟨o, es, ep, e, d, r⟩ => ⟨o, es, ep, hidT_get e (dict e d), d, r⟩
  have KB : K.In (hidT s₁.heap H) := fun b o e => hidT_get (KX b o e) (by
    cases q : H b with
    | none => rfl
    | some u =>
      rcases says q with ⟨h1, _⟩ | ⟨rfl, h1, _⟩
      · obtain ⟨p, hp, rfl⟩ := ofT b h1
        cases (nT p hp).symm.trans e
      · cases h1.symm.trans e)
  have M : L2.Mod K mg (hidT s₁.heap H) := ⟨KB, names hns, ⟨mb, names hb, hbb⟩, let ⟨mc, h1, h2⟩ := hlim; ⟨mc, names h1, h2⟩⟩
  have TB : ∀ p ∈ cs, GxR.TabB (hidT s₁.heap H) mg p.1 p.2 := fun p hp => by
    refine ⟨?_, ?_, fun z => ?_⟩
    · obtain ⟨o, us, file, tf, flags, tg, inF, text, tt, e1, r1, r2⟩ := C p hp
      refine ⟨o, us, file, tf, flags, tg, inF, text, tt, hidT_get e1 (other e1 (fun _ _ z => ?_) fun z => ?_), r1, r2⟩
      · cases r2.1.symm.trans z
      · cases r2.1.symm.trans z
        have r3 := r2.2.1
        simp at r3
    · obtain ⟨bm, ob, b1, b2, b3, b4, b5, b6⟩ := hbm
      have isn : ∀ {c : Addr} {o : Obj}, s₁.heap.get? c = some o → o.data ≠ .plain → bm ≠ c := fun e n q => by
        subst q
        cases b3.symm.trans e
        exact n b6
      obtain ⟨o, es, ep, e, d, _⟩ := hns
      exact ⟨bm, ob, b1, b2, isn e (fun z => by cases d.symm.trans z), isn (hT p hp) (fun z => (nomatch z)), hidT_get b3 (other b3 (fun _ _ z => by cases b6.symm.trans z) fun z => by cases b6.symm.trans z), b4, b5, b6⟩
    · obtain ⟨o, es, ep, e, d, _⟩ := hns
      rw [z] at e
      cases e.symm.trans (hT p hp)
      cases d
  have E0 : Env0 P w K mg (hidT s₁.heap H) callerA [] s₁ H := ⟨rfl, M, fun b o e => of_hidT e, Nat.le_of_eq (hidT_size _ _), trivial, fun b hb => (nomatch hb), hok, .of_eq hg⟩
  refine codeAny_mono ((F _ KB (names hns) TB).run callerA [] s₁ H ⟨[.ref a], []⟩ [.ref a] [.ref a] _ _ rfl hr E0 (hbind s₁ (.ref a)) (.cons rfl .nil) (hsp H hH hS)) fun r s' h => ?_
  cases r with
  | error e => exact False.elim h
  | ok fl =>
    cases fl with
    | next => exact False.elim h
    | brk => exact False.elim h
    | cont => exact False.elim h
    | ret u =>
      obtain ⟨v, H', os, bare, un, hok', r', q⟩ := h
      cases (show v = .bl true from q)
      cases (show u = Value.bool true from r')
      -- the tables have grown, all else is as it was
      have grew : ∀ p ∈ cs, ∃ more : Array Value, s'.heap.get? p.2 = some { cls := .none, data := .fields (#[] ++ more) } := fun p hp => by
        obtain ⟨more, z⟩ := un.tbls p.2 #[] (hH p hp)
        exact ⟨more, hok' p.2 _ z⟩
      have stays : ∀ b o, b ∉ cs.map (·.2) → s₁.heap.get? b = some o → s'.heap.get? b = some o := fun b o nb e => by
        cases q : H b with
        | none => exact un.keep b o e q (fun z => (nomatch z)) fun z => (nomatch z)
        | some u =>
          rcases says q with ⟨h1, _⟩ | ⟨rfl, _, rfl⟩
          · exact absurd h1 nb
          · cases e.symm.trans ha
            exact (hok' b _ (un.frzs b _ _ q)).1
      refine ⟨rfl, ⟨fun b o e => ?_, fun b o e => ?_⟩, os, bare⟩
      · by_cases hb : b ∈ cs.map (·.2)
        · obtain ⟨p, hp, rfl⟩ := ofT b hb
          obtain ⟨more, g⟩ := grew p hp
          cases e.symm.trans (hT p hp)
          exact .inr (.inl ⟨((C p hp).tab (hT p hp)).isCodeTable, rfl, #[], more, rfl, g⟩)
        · exact .inl (stays b o hb e)
      · by_cases hb : b ∈ cs.map (·.2)
        · obtain ⟨p, hp, rfl⟩ := ofT b hb
          obtain ⟨more, g⟩ := grew p hp
          exact ⟨_, g⟩
        · exact ⟨o, stays b o hb e⟩
/-- what is known of the law at the head's heap -/
def LawG (l : PySem.W.OpenLaw) (w : World) (K : PySem.W.Frag) (k n : Nat) (x : Str) (mg : Str → Option Value) (fa : Addr) (h : Heap) : Prop :=
  ∃ (fd : FuncData) (cs : List (Addr × Addr)) (sp : Sp), (∀ p ∈ cs, h.get? p.2 = some { cls := .none, data := .fields #[] }) ∧ (∀ p ∈ cs, K.lookup p.2 = none) ∧ (∀ p ∈ cs, PySem.W.CodeHd h p.1 p.2) ∧ (∀ (s : Shared) (u : Value), BindsTo s fd ⟨[u], []⟩ [(x, u)]) ∧
    (∀ (H : Hp) (a : Addr) (ns : List Int), ns.length ≤ n → (∀ p ∈ cs, H p.2 = some (.tbl #[])) → SqL K H a (ns.map V.int) → sp [.ref a] H (fun v _ => v = .bl true) fun _ _ _ => False) ∧
    ∀ base : Heap, K.In base → base.Ns mainGlobals mg → (∀ p ∈ cs, GxR.TabB base mg p.1 p.2) → FnG l.prog w K mg base k fa fd [x] sp
theorem walkG {l : PySem.W.OpenLaw} {n k : Nat} {q : Program} {loose : List Str} {XP : (Str → Option Value) → Heap → Prop} {YP : World → Heap → Prop} {d : DefRec} {x : Str}
    (hn : l.most = some n) (hn2 : n ≤ sizeLine) (hdf : d.params.defaults = []) (hr : Room k callerA)
    (F : ∀ (w : World) (mg : Str → Option Value) (fa : Addr) (h : Heap), YP w h → h.Ns mainGlobals mg → mg d.name = some (.ref fa) → ∃ K : PySem.W.Frag, K.In h ∧ LawG l w K k n x mg fa h) :
    PySem.W.WalkO q loose XP YP l.row.toRowW d [] (fun f vs => PySem.call f vs) := by
  refine Att.attach_callB hn hdf fun w s₀ s₁ mg mb fa o pm cd doc a vs ns G Y ho hd hcd hmg hobj hints hlen hbits hg => ?_
  obtain ⟨K, KX, fd, cs, sp, hT, nT, C, hb, hsp, hF⟩ := F w mg fa _ Y G.T.g hmg
  exact law_callG KX G.T.g G.T.b G.T.builtins G.T.nolimit hg hT nT C G.T.bmain hobj hints (Nat.le_trans hlen hn2) hr hF hb fun H hH hS => hsp H a ns hlen hH hS
end Gr

set_option Elab.async false
set_option linter.all false
set_option maxRecDepth 100000
set_option maxHeartbeats 2000000
/-! What a text on data gives, told by what is to hold behind it. -/
namespace Ev
open PySem PySem.Spec PyProof.Rows L2 GxR Gx Gq
abbrev XC := Str → List PV → Env → Prop
def WE {α : Type} (o : Out α) (K : α → Env → Prop) (X : XC) : Prop := match o with
  | .ok x e => K x e
  | .exc c xs e => X c xs e
  | .bad => False
def WO {α : Type} (o : Option α) (K : α → Prop) : Prop := match o with
  | some x => K x
  | none => False
structure EK where
  rt : PV → Env → Prop
  bk : Env → Prop
  ct : Env → Prop
  ex : XC
def WS (o : SOut) (N : Env → Prop) (D : EK) : Prop := match o with
  | .nx e => N e
  | .rt x e => D.rt x e
  | .bk e => D.bk e
  | .ct e => D.ct e
  | .exc c xs e => D.ex c xs e
  | .bad => False
def WD (o : DOut) (K : PV → List PV → Prop) (X : Str → List PV → List PV → Prop) : Prop := match o with
  | .ok x os => K x os
  | .exc c xs os => X c xs os
  | .bad => False

/-! what follows, by names: so that nothing looks into it ahead of time -/
def isI : PV → (Int → Prop) → Prop
  | .int i, K => K i
  | _, _ => False
def isS : PV → (Str → Prop) → Prop
  | .str i, K => K i
  | _, _ => False
def isBo : PV → (Bool → Prop) → Prop
  | .bl i, K => K i
  | _, _ => False
def setOk (n : Option Ent) (P : Prop) : Prop := match n with
  | some (some (.io, _)) => False
  | some _ => P
  | none => False
def kAnd2 (n : M PV) (K : PV → Env → Prop) (X : XC) (e : Env) (b : Bool) : Prop := if b then WE (n e) K X else K (.bl false) e
def kOr2 (n : M PV) (K : PV → Env → Prop) (X : XC) (e : Env) (b : Bool) : Prop := if b then K (.bl true) e else WE (n e) K X
def kCons (o : Option PV) (K : List (Option PV) → Env → Prop) (l : List (Option PV)) (e : Env) : Prop := K (o :: l) e
def kM (r : List Op) (K : List (Option PV) → Env → Prop) (X : XC) (x : PV) (e : Env) : Prop := WE (evOps r e) (kCons (some x) K) X
def kOp (f : List PV → Option PV) (ops : List Op) (K : PV → Env → Prop) (l : List (Option PV)) (e : Env) : Prop := WO (look ops l e) fun xs => WO (f xs) fun z => K z e
def kOpT (f : List PV → Option Bool) (ops : List Op) (K : Bool → Env → Prop) (l : List (Option PV)) (e : Env) : Prop := WO (look ops l e) fun xs => WO (f xs) fun z => K z e
def kConsL (x : PV) (K : List PV → Env → Prop) (l : List PV) (e : Env) : Prop := K (x :: l) e
def kL (r : List (M PV)) (K : List PV → Env → Prop) (X : XC) (x : PV) (e : Env) : Prop := WE (evL r e) (kConsL x K) X
def kTup (K : PV → Env → Prop) (l : List PV) (e : Env) : Prop := K (.tup l) e
def kLst (K : PV → Env → Prop) (l : List PV) (e : Env) : Prop := K (.lst true l) e
def kFrz (K : PV → Env → Prop) (x : PV) (e : Env) : Prop := K x.frz e
def kInt (K : PV → Env → Prop) (x : PV) (e : Env) : Prop := isI x fun i => K (.int i) e
def kStr (K : PV → Env → Prop) (x : PV) (e : Env) : Prop := isS x fun i => K (.str i) e
def kTy (ty : PV → Bool) (K : PV → Env → Prop) (x : PV) (e : Env) : Prop := ty x = true ∧ K x e
def kOf (K : Bool → Env → Prop) (x : PV) (e : Env) : Prop := isBo x fun b => K b e
def kcNot (K : Bool → Env → Prop) (b : Bool) (e : Env) : Prop := K (!b) e
def kcAnd (n : M Bool) (K : Bool → Env → Prop) (X : XC) (b : Bool) (e : Env) : Prop := if b then WE (n e) K X else K false e
def kcOr (n : M Bool) (K : Bool → Env → Prop) (X : XC) (b : Bool) (e : Env) : Prop := if b then K true e else WE (n e) K X
def kNot (K : PV → Env → Prop) (x : PV) (e : Env) : Prop := isBo x fun b => K (.bl (!b)) e
def kAnd (n : M PV) (K : PV → Env → Prop) (X : XC) (x : PV) (e : Env) : Prop := isBo x (kAnd2 n K X e)
def kOr (n : M PV) (K : PV → Env → Prop) (X : XC) (x : PV) (e : Env) : Prop := isBo x (kOr2 n K X e)
def kIf (m n : M PV) (K : PV → Env → Prop) (X : XC) (b : Bool) (e : Env) : Prop := if b then WE (m e) K X else WE (n e) K X
def kCh4 (g : PV → PV → Option PV) (K : PV → Env → Prop) (y z : PV) (e : Env) : Prop := WO (g y z) fun w => K w e
def kCh3 (g : PV → PV → Option PV) (c : M PV) (K : PV → Env → Prop) (X : XC) (y : PV) (e : Env) (t : Bool) : Prop := if t then WE (c e) (kCh4 g K y) X else K (.bl false) e
def kCh2 (f g : PV → PV → Option PV) (c : M PV) (K : PV → Env → Prop) (X : XC) (x y : PV) (e : Env) : Prop := WO (f x y) fun t => isBo t (kCh3 g c K X y e)
def kCh (f g : PV → PV → Option PV) (b c : M PV) (K : PV → Env → Prop) (X : XC) (x : PV) (e : Env) : Prop := WE (b e) (kCh2 f g c K X x) X
def kCl0 (K : PV → Env → Prop) (e : Env) (x : PV) (os : List PV) : Prop := os = [] ∧ K x e
def kXl0 (X : XC) (e : Env) (c : Str) (es os : List PV) : Prop := os = [] ∧ X c es e
def kCall0 (ks : List Bool) (den : List PV → DOut) (ops : List Op) (K : PV → Env → Prop) (X : XC) (l : List (Option PV)) (e : Env) : Prop := WO (lookC ks ops l e .non) fun xs => WD (den xs) (kCl0 K e) (kXl0 X e)
def kCl1 (i : Nat) (k : Kd) (K : PV → Env → Prop) (e : Env) (x : PV) (os : List PV) : Prop := ∃ o, os = [o] ∧ K x (e.set i (some (k, o)))
def kXl1 (i : Nat) (k : Kd) (X : XC) (e : Env) (c : Str) (es os : List PV) : Prop := ∃ o, os = [o] ∧ X c es (e.set i (some (k, o)))
def kCall1 (ks : List Bool) (den : List PV → DOut) (ops : List Op) (i : Nat) (K : PV → Env → Prop) (X : XC) (l : List (Option PV)) (e : Env) : Prop := WO e[i]? fun n => WO n fun p => p.1 ≠ .bor ∧ WO (lookC ks ops l (e.set i none) p.2) fun xs => WD (den xs) (kCl1 i p.1 K e) (kXl1 i p.1 X e)
def kSeq (b : SM) (N : Env → Prop) (D : EK) (e : Env) : Prop := WS (b e) N D
def kAsg (i : Nat) (N : Env → Prop) (x : PV) (e : Env) : Prop := setOk e[i]? (N (e.set i (some (.own, x))))
def kExpr (N : Env → Prop) (x : PV) (e : Env) : Prop := N e
def kRet (D : EK) (x : PV) (e : Env) : Prop := D.rt x e
def kSIf (a b : SM) (N : Env → Prop) (D : EK) (t : Bool) (e : Env) : Prop := if t then WS (a e) N D else WS (b e) N D
def kMut (i : Nat) (f : PV → List PV → Option (PV × PV)) (K : PV → Env → Prop) (l : List PV) (e : Env) : Prop := WO e[i]? fun n => WO n fun p => p.1 ≠ .bor ∧ WO (f p.2 l) fun q => K q.2 (e.set i (some (p.1, q.1)))
def kAsgG (g : Bnd) (N : Env → Prop) (x : PV) (e : Env) : Prop := WO (g x.frz e) N
def kPar1 (i j : Nat) (N : Env → Prop) (x y : PV) (e : Env) : Prop := setOk e[i]? (setOk e[j]? (N ((e.set i (some (.own, x))).set j (some (.own, y)))))
def kPar (i j : Nat) (n : M PV) (N : Env → Prop) (X : XC) (x : PV) (e : Env) : Prop := WE (n e) (kPar1 i j N x) X
def kAug (i : Nat) (f : Int → Int → Int) (N : Env → Prop) (x : Int) (y : PV) (e : Env) : Prop := isI y fun y => setOk e[i]? (N (e.set i (some (.own, .int (f x y)))))
def kSrc (f : List PV → Option (List PV)) (ops : List Op) (K : List PV → Env → Prop) (l : List (Option PV)) (e : Env) : Prop := WO (lookS ops l e) fun xs => WO (f xs) fun is => PV.frees is = true ∧ K is e
def kFor (g : Bnd) (body : SM) (N : Env → Prop) (D : EK) (is : List PV) (e : Env) : Prop := WS (mFor g body is e) N D
def kWh (c : M Bool) (body : SM) (n : Nat) (N : Env → Prop) (D : EK) (t : Bool) (e : Env) : Prop := if t then WS (body e) (fun e => WS (mWhile c body n e) N D) ⟨D.rt, N, fun e => WS (mWhile c body n e) N D, D.ex⟩ else N e
def kLcE (vs : List Nat) (K : PV → Env → Prop) (e : Env) (l : List PV) (e2 : Env) : Prop := K (.lst true l) (restE e e2 vs)
def noX : XC := fun _ _ _ => False
def kLc (vs : List Nat) (g : Bnd) (tt : M Bool) (te : M PV) (K : PV → Env → Prop) (is : List PV) (e : Env) : Prop := (is.length < CAP ∧ vs.all (keptE e) = true ∧ vs.Nodup) ∧ WE (mLc vs g tt te is e) (kLcE vs K e) noX
def kQE (vs : List Nat) (K : PV → Env → Prop) (e : Env) (b : Bool) (e2 : Env) : Prop := K (.bl b) (restE e e2 vs)
def kQ (vs : List Nat) (g : Bnd) (go : Bool) (te : M PV) (K : PV → Env → Prop) (is : List PV) (e : Env) : Prop := (vs.all (keptE e) = true ∧ vs.Nodup) ∧ WE (mQ vs g go te is e) (kQE vs K e) noX
theorem WE.mono {α : Type} {o : Out α} {K K' : α → Env → Prop} {X X' : XC} (h : WE o K X) (k : ∀ x e, K x e → K' x e) (x : ∀ c xs e, X c xs e → X' c xs e) : WE o K' X' := by
  cases o with
  | ok a e => exact k _ _ h
  | exc c xs e => exact x _ _ _ h
  | bad => exact h
theorem WS.mono {o : SOut} {N N' : Env → Prop} {D : EK} (h : WS o N D) (k : ∀ e, N e → N' e) : WS o N' D := by
  cases o with
  | nx e => exact k _ h
  | _ => exact h
theorem WS.mono' {o : SOut} {N N' : Env → Prop} {D D' : EK} (h : WS o N D) (k : ∀ e, N e → N' e) (r : ∀ x e, D.rt x e → D'.rt x e) (b : ∀ e, D.bk e → D'.bk e) (c : ∀ e, D.ct e → D'.ct e) (x : ∀ c xs e, D.ex c xs e → D'.ex c xs e) : WS o N' D' := by
  cases o with
  | nx e => exact k _ h
  | rt a e => exact r _ _ h
  | bk e => exact b _ h
  | ct e => exact c _ h
  | exc a xs e => exact x _ _ _ h
  | bad => exact h
theorem WD.mono {o : DOut} {K K' : PV → List PV → Prop} {X X' : Str → List PV → List PV → Prop} (h : WD o K X) (k : ∀ x e, K x e → K' x e) (x : ∀ c xs e, X c xs e → X' c xs e) : WD o K' X' := by
  cases o with
  | ok a e => exact k _ _ h
  | exc c xs e => exact x _ _ _ h
  | bad => exact h
section
variable {α β : Type} {K : α → Env → Prop} {KP : PV → Env → Prop} {KB : Bool → Env → Prop} {KL : List PV → Env → Prop} {X : XC} {N : Env → Prop} {D : EK} {env : Env}
/-! ends -/
theorem WE_ok {x : α} : WE (.ok x env) K X = K x env := rfl
theorem WE_exc {c : Str} {xs : List PV} : WE (α := α) (.exc c xs env) K X = X c xs env := rfl
theorem WE_bad : WE (α := α) .bad K X = False := rfl
theorem WE_ite {c : Prop} [Decidable c] {a b : Out α} : WE (if c then a else b) K X = if c then WE a K X else WE b K X := by split <;> rfl
theorem WO_some {x : α} {K : α → Prop} : WO (some x) K = K x := rfl
theorem WO_none {K : α → Prop} : WO none K = False := rfl
theorem WO_ite {x : α} {c : Prop} [Decidable c] {K : α → Prop} : WO (if c then some x else none) K = (c ∧ K x) := by split <;> simp_all [WO]
theorem WO_map {o : Option β} {f : β → α} {K : α → Prop} : WO (o.map f) K = WO o fun x => K (f x) := by cases o <;> rfl
theorem WE_bind {o : Out β} {f : β → Env → Out α} : WE (o.bind f) K X = WE o (fun x e => WE (f x e) K X) X := by cases o <;> rfl
/-! expressions -/
theorem WE_C {x : PV} : WE (eC x env) KP X = KP x env := rfl
theorem WE_var {i : Nat} : WE (eVar i env) KP X = WO env[i]? fun n => WO n fun p => if p.2.free then KP p.2 env else p.1 = .own ∧ KP p.2.frz (env.set i (some (.own, p.2.frz))) := by
  unfold eVar
  rcases h : env[i]? with _ | _ | ⟨k, x⟩
  · rfl
  · rfl
  · simp only [WO_some]
    by_cases hf : x.free = true
    · simp only [hf, if_true]; rfl
    · simp only [hf, if_false]
      cases k <;> simp [WE]
theorem evOps_nil : evOps [] env = .ok [] env := rfl
theorem WE_opsv {i : Nat} {r : List Op} {K : List (Option PV) → Env → Prop} : WE (evOps (.v i :: r) env) K X = WO env[i]? fun n => WO n fun _ => WE (evOps r env) (kCons none K) X := by
  show WE (match env[i]? with | some (some _) => (evOps r env).bind fun l env' => .ok (none :: l) env' | _ => .bad) K X = _
  rcases h : env[i]? with _ | _ | ⟨k, x⟩ <;> simp [WE, WO]
  cases evOps r env <;> rfl
theorem WE_opsm {m : M PV} {r : List Op} {K : List (Option PV) → Env → Prop} : WE (evOps (.m m :: r) env) K X = WE (m env) (kM r K X) X := by
  show WE ((m env).bind fun x env1 => (evOps r env1).bind fun l env2 => .ok (some x :: l) env2) K X = _
  rw [WE_bind]
  congr 1
  funext x e
  rw [WE_bind]
  rfl
theorem WE_op {f : List PV → Option PV} {ops : List Op} : WE (eOp f ops env) KP X = WE (evOps ops env) (kOp f ops KP) X := by
  unfold eOp
  rw [WE_bind]
  congr 1
  funext l e
  unfold kOp
  cases look ops l e with
  | none => rfl
  | some xs =>
    simp only [WO_some]
    cases f xs <;> rfl
theorem WE_opT {f : List PV → Option Bool} {ops : List Op} : WE (eOpT f ops env) KB X = WE (evOps ops env) (kOpT f ops KB) X := by
  unfold eOpT
  rw [WE_bind]
  congr 1
  funext l e
  unfold kOpT
  cases look ops l e with
  | none => rfl
  | some xs =>
    simp only [WO_some]
    cases f xs <;> rfl
theorem look_nil : look [] [] env = some [] := rfl
theorem look_v {i : Nat} {r : List Op} {o : Option PV} {l : List (Option PV)} : look (.v i :: r) (o :: l) env = (match env[i]? with | some (some (_, x)) => (look r l env).map (x :: ·) | _ => none) := rfl
theorem look_m {m : M PV} {r : List Op} {x : PV} {l : List (Option PV)} : look (.m m :: r) (some x :: l) env = (look r l env).map (x.frz :: ·) := rfl
theorem evL_nil : evL [] env = .ok [] env := rfl
theorem WE_evL {m : M PV} {r : List (M PV)} {K : List PV → Env → Prop} : WE (evL (m :: r) env) K X = WE (m env) (kL r K X) X := by
  show WE ((m env).bind fun x env1 => (evL r env1).bind fun l env2 => .ok (x :: l) env2) K X = _
  rw [WE_bind]
  congr 1
  funext x e
  rw [WE_bind]
  rfl
theorem WE_tup {ms : List (M PV)} : WE (eTup ms env) KP X = WE (evL ms env) (kTup KP) X := by
  unfold eTup
  rw [WE_bind]
  rfl
theorem WE_lst {ms : List (M PV)} : WE (eLst ms env) KP X = WE (evL ms env) (kLst KP) X := by
  unfold eLst
  rw [WE_bind]
  rfl
theorem WE_frz {m : M PV} : WE (eFrz m env) KP X = WE (m env) (kFrz KP) X := by
  unfold eFrz
  cases m env <;> rfl
theorem isI_int {i : Int} {K : Int → Prop} : isI (.int i) K = K i := rfl
theorem isS_str {i : Str} {K : Str → Prop} : isS (.str i) K = K i := rfl
theorem isBo_bl {i : Bool} {K : Bool → Prop} : isBo (.bl i) K = K i := rfl
theorem WE_int {m : M PV} : WE (eInt m env) KP X = WE (m env) (kInt KP) X := by
  unfold eInt
  cases m env with
  | ok x e => cases x <;> rfl
  | exc => rfl
  | bad => rfl
theorem WE_str {m : M PV} : WE (eStr m env) KP X = WE (m env) (kStr KP) X := by
  unfold eStr
  cases m env with
  | ok x e => cases x <;> rfl
  | exc => rfl
  | bad => rfl
theorem WE_ty {ty : PV → Bool} {m : M PV} : WE (eTy ty m env) KP X = WE (m env) (kTy ty KP) X := by
  unfold eTy
  cases m env with
  | ok x e =>
    simp only [WE]
    by_cases h : ty x = true <;> simp [h, WE, kTy]
  | exc => rfl
  | bad => rfl
theorem WE_cOf {m : M PV} : WE (cOf m env) KB X = WE (m env) (kOf KB) X := by
  unfold cOf
  cases m env with
  | ok x e => cases x <;> rfl
  | exc => rfl
  | bad => rfl
theorem WE_cNot {m : M Bool} : WE (cNot m env) KB X = WE (m env) (kcNot KB) X := by
  unfold cNot
  cases m env <;> rfl
theorem WE_cTrue : WE (cTrue env) KB X = KB true env := rfl
theorem WE_cAnd {m n : M Bool} : WE (cAnd m n env) KB X = WE (m env) (kcAnd n KB X) X := by
  unfold cAnd
  cases m env with
  | ok x e => cases x <;> rfl
  | exc => rfl
  | bad => rfl
theorem WE_cOr {m n : M Bool} : WE (cOr m n env) KB X = WE (m env) (kcOr n KB X) X := by
  unfold cOr
  cases m env with
  | ok x e => cases x <;> rfl
  | exc => rfl
  | bad => rfl
theorem WE_not {m : M PV} : WE (eNot m env) KP X = WE (m env) (kNot KP) X := by
  unfold eNot
  cases m env with
  | ok x e => cases x <;> rfl
  | exc => rfl
  | bad => rfl
theorem WE_and {m n : M PV} : WE (eAnd m n env) KP X = WE (m env) (kAnd n KP X) X := by
  unfold eAnd
  cases m env with
  | ok x e =>
    cases x with
    | bl b => cases b <;> rfl
    | _ => rfl
  | exc => rfl
  | bad => rfl
theorem WE_or {m n : M PV} : WE (eOr m n env) KP X = WE (m env) (kOr n KP X) X := by
  unfold eOr
  cases m env with
  | ok x e =>
    cases x with
    | bl b => cases b <;> rfl
    | _ => rfl
  | exc => rfl
  | bad => rfl
theorem WE_if {c : M Bool} {m n : M PV} : WE (eIf c m n env) KP X = WE (c env) (kIf m n KP X) X := by
  unfold eIf
  cases c env with
  | ok x e => cases x <;> rfl
  | exc => rfl
  | bad => rfl
theorem WE_chain {f g : PV → PV → Option PV} {a b c : M PV} : WE (eChain f g a b c env) KP X = WE (a env) (kCh f g b c KP X) X := by
  unfold eChain
  rcases a env with ⟨x, e⟩ | _ | _
  · simp only [WE, kCh]
    rcases b e with ⟨y, e⟩ | _ | _
    · simp only [kCh2]
      rcases f x y with _ | t
      · rfl
      · cases t with
        | bl t =>
          cases t
          · rfl
          · simp only [WO_some, isBo_bl, kCh3, if_true]
            rcases c e with ⟨z, e⟩ | _ | _
            · show _ = kCh4 g KP y z e
              unfold kCh4
              dsimp only [WE]
              rcases g y z with _ | w <;> rfl
            · rfl
            · rfl
        | _ => rfl
    · rfl
    · rfl
  · rfl
  · rfl
theorem WE_dict0 : WE (eDict0 env) KP X = KP (.dct true [] []) env := rfl
/-! calls -/
theorem WE_call0 {ks : List Bool} {den : List PV → DOut} {ops : List Op} (h : ioIx ks ops = some none) : WE (eCall ks den ops env) KP X = WE (evOps ops env) (kCall0 ks den ops KP X) X := by
  unfold eCall
  rw [WE_bind]
  congr 1
  funext l e
  unfold kCall0
  simp only [h]
  cases lookC ks ops l e .non with
  | none => rfl
  | some xs =>
    simp only [WO_some]
    rcases den xs with ⟨x, _ | _⟩ | ⟨c, es, _ | _⟩ | _ <;> simp [WD, WE, kCl0, kXl0]
theorem WE_call1 {ks : List Bool} {den : List PV → DOut} {ops : List Op} {i : Nat} (h : ioIx ks ops = some (some i)) : WE (eCall ks den ops env) KP X = WE (evOps ops env) (kCall1 ks den ops i KP X) X := by
  unfold eCall
  rw [WE_bind]
  congr 1
  funext l e
  unfold kCall1
  simp only [h]
  rcases e[i]? with _ | _ | ⟨k, x0⟩
  · rfl
  · rfl
  · simp only [WO_some]
    by_cases hk : k = .bor
    · simp [hk, WE]
    · simp only [hk, if_false, ne_eq, not_false_eq_true, true_and]
      cases lookC ks ops l (e.set i none) x0 with
      | none => rfl
      | some xs =>
        simp only [WO_some]
        rcases den xs with ⟨x, _ | ⟨o, _ | _⟩⟩ | ⟨c, es, _ | ⟨o, _ | _⟩⟩ | _ <;> simp [WD, WE, kCl1, kXl1]
def kSel2 (ks : List Bool) (den : List PV → DOut) (ops : List Op) (env : Env) (K : PV → Env → Prop) (X : XC) : Option (Option Nat) → Prop
  | none => WE (eCall ks den ops env) K X
  | some none => WE (evOps ops env) (kCall0 ks den ops K X) X
  | some (some i) => WE (evOps ops env) (kCall1 ks den ops i K X) X
theorem WE_call {ks : List Bool} {den : List PV → DOut} {ops : List Op} : WE (eCall ks den ops env) KP X = kSel2 ks den ops env KP X (ioIx ks ops) := by
  rcases h : ioIx ks ops with _ | _ | i
  · rfl
  · rw [WE_call0 h]; rfl
  · rw [WE_call1 h]; rfl
theorem kSel_0 {ks : List Bool} {den : List PV → DOut} {ops : List Op} : kSel2 ks den ops env KP X (some none) = WE (evOps ops env) (kCall0 ks den ops KP X) X := rfl
theorem kSel_1 {ks : List Bool} {den : List PV → DOut} {ops : List Op} {i : Nat} : kSel2 ks den ops env KP X (some (some i)) = WE (evOps ops env) (kCall1 ks den ops i KP X) X := rfl
abbrev XN : Str → List PV → List PV → Prop := fun _ _ _ => False
theorem WD.eq {o : DOut} {a : PV} {b : List PV} (h : WD o (fun x os => x = a ∧ os = b) XN) : o = .ok a b := by
  cases o with
  | ok x os => obtain ⟨rfl, rfl⟩ := h; rfl
  | exc c xs os => exact h.elim
  | bad => exact h.elim
theorem WD.of {o : DOut} {K : PV → List PV → Prop} (h : WD o K XN) : ∃ x os, o = .ok x os ∧ K x os := by
  cases o with
  | ok x os => exact ⟨x, os, rfl, h⟩
  | exc c xs os => exact h.elim
  | bad => exact h.elim
theorem lookC_nil {x0 : PV} : lookC [] [] [] env x0 = some [] := rfl
theorem lookC_fv {ks : List Bool} {i : Nat} {os : List Op} {l : List (Option PV)} {x0 : PV} : lookC (false :: ks) (.v i :: os) (none :: l) env x0 = (match env[i]? with | some (some (_, x)) => (lookC ks os l env x0).map (x :: ·) | _ => none) := by
  show (match env[i]? with | some (some (_, x)) => (match lookC ks os l env x0 with | some xs => some (x :: xs) | none => none) | _ => none) = _
  rcases env[i]? with _ | _ | ⟨k, x⟩ <;> first | rfl | (simp only; cases lookC ks os l env x0 <;> rfl)
theorem lookC_fm {ks : List Bool} {m : M PV} {os : List Op} {x : PV} {l : List (Option PV)} {x0 : PV} : lookC (false :: ks) (.m m :: os) (some x :: l) env x0 = (lookC ks os l env x0).map (x.frz :: ·) := by
  show (match lookC ks os l env x0 with | some xs => some (x.frz :: xs) | none => none) = _
  cases lookC ks os l env x0 <;> rfl
theorem lookC_tv {ks : List Bool} {i : Nat} {os : List Op} {l : List (Option PV)} {x0 : PV} : lookC (true :: ks) (.v i :: os) (none :: l) env x0 = (lookC ks os l env x0).map (x0 :: ·) := by
  show (match lookC ks os l env x0 with | some xs => some (x0 :: xs) | none => none) = _
  cases lookC ks os l env x0 <;> rfl
theorem WD_ok {x : PV} {os : List PV} {K : PV → List PV → Prop} {X : Str → List PV → List PV → Prop} : WD (.ok x os) K X = K x os := rfl
theorem WD_exc {c : Str} {xs os : List PV} {K : PV → List PV → Prop} {X : Str → List PV → List PV → Prop} : WD (.exc c xs os) K X = X c xs os := rfl
theorem WD_run {n : Nat} {ks : List Bool} {m : SM} {xs : List PV} {K : PV → List PV → Prop} {X : Str → List PV → List PV → Prop} : WD (runD n ks m xs) K X = WS (m (entsD ks xs ++ List.replicate (n - ks.length) none)) (fun e => WO (outsE ks e) fun os => K .non os) ⟨fun x e => WO (outsE ks e) fun os => K x os, fun _ => False, fun _ => False, fun c es e => WO (outsE ks e) fun os => X c es os⟩ := by
  unfold runD
  rcases m (entsD ks xs ++ List.replicate (n - ks.length) none) with e | ⟨x, e⟩ | e | e | ⟨c, es, e⟩ | _
  all_goals (simp only [WS]; try (cases outsE ks e <;> rfl))
  all_goals rfl
/-! statements -/
theorem WS_seq {a b : SM} : WS (sSeq a b env) N D = WS (a env) (kSeq b N D) D := by
  unfold sSeq
  cases a env <;> rfl
theorem WS_skip : WS (sSkip env) N D = N env := rfl
theorem WS_bk : WS (sBk env) N D = D.bk env := rfl
theorem WS_ct : WS (sCt env) N D = D.ct env := rfl
theorem WS_of {m : M PV} {f : PV → Env → SOut} : WS (sOf m f env) N D = WE (m env) (fun x e => WS (f x e) N D) D.ex := by
  unfold sOf
  cases m env <;> rfl
theorem setOk_n {P : Prop} : setOk (some none) P = P := rfl
theorem setOk_o {x : PV} {P : Prop} : setOk (some (some (.own, x))) P = P := rfl
theorem setOk_b {x : PV} {P : Prop} : setOk (some (some (.bor, x))) P = P := rfl
theorem WS_asg {i : Nat} {m : M PV} : WS (sAsg i m env) N D = WE (m env) (kAsg i N) D.ex := by
  unfold sAsg
  rw [WS_of]
  congr 1
  funext x e
  unfold kAsg
  rcases e[i]? with _ | _ | ⟨_ | _ | _, _⟩ <;> rfl
theorem WS_expr {m : M PV} : WS (sExpr m env) N D = WE (m env) (kExpr N) D.ex := by
  unfold sExpr
  rw [WS_of]
  rfl
theorem WS_ret {m : M PV} : WS (sRet m env) N D = WE (m env) (kRet D) D.ex := by
  unfold sRet
  rw [WS_of]
  rfl
theorem WS_retN : WS (sRetN env) N D = D.rt .non env := rfl
theorem WS_retV {i : Nat} : WS (sRetV i env) N D = WO env[i]? fun n => WO n fun p => if p.2.free then D.rt p.2 env else p.1 = .own ∧ D.rt p.2 (env.set i none) := by
  unfold sRetV
  rcases h : env[i]? with _ | _ | ⟨k, x⟩
  · rfl
  · rfl
  · simp only [WO_some]
    by_cases hf : x.free = true
    · simp only [hf, if_true]; rfl
    · simp only [hf, if_false]
      cases k <;> simp [WS]
theorem WS_if {c : M Bool} {a b : SM} : WS (sIf c a b env) N D = WE (c env) (kSIf a b N D) D.ex := by
  unfold sIf
  cases c env with
  | ok x e => cases x <;> rfl
  | exc => rfl
  | bad => rfl
theorem WS_raise {c : Str} : WS (sRaise c env) N D = D.ex c [] env := rfl
theorem WE_mut {i : Nat} {ty : PV → Bool} {f : PV → List PV → Option (PV × PV)} {ms : List (M PV)} : WE (eMut i ty f ms env) KP X = WO env[i]? fun n => WO n fun p => ty p.2 = true ∧ WE (evL ms env) (kMut i f KP) X := by
  unfold eMut
  rcases env[i]? with _ | _ | ⟨k, x⟩
  · rfl
  · rfl
  · simp only [WO_some]
    by_cases h : ty x = true
    · simp only [h, if_true, true_and]
      rw [WE_bind]
      congr 1
      funext l e
      unfold kMut
      rcases e[i]? with _ | _ | ⟨k, x⟩
      · rfl
      · rfl
      · simp only [WO_some]
        by_cases hk : k = .bor
        · simp [hk, WE]
        · simp only [hk, if_false, ne_eq, not_false_eq_true, true_and]
          rcases f x l with _ | ⟨x', r⟩ <;> rfl
    · simp [h, WE]
theorem WS_asgG {g : Bnd} {m : M PV} : WS (sAsgG g m env) N D = WE (m env) (kAsgG g N) D.ex := by
  unfold sAsgG
  rw [WS_of]
  congr 1
  funext x e
  unfold kAsgG
  cases g x.frz e <;> rfl
theorem WS_par2 {i j : Nat} {m n : M PV} : WS (sPar2 i j m n env) N D = WE (m env) (kPar i j n N D.ex) D.ex := by
  unfold sPar2
  have h : WE (evL [m, n] env) (fun l e => match l with | [x, y] => setOk e[i]? (setOk e[j]? (N ((e.set i (some (.own, x))).set j (some (.own, y))))) | _ => False) D.ex = WE (m env) (kPar i j n N D.ex) D.ex := by
    rw [WE_evL]
    congr 1
    funext x e
    unfold kL kPar
    rw [WE_evL]
    congr 1
  rw [← h]
  rcases evL [m, n] env with ⟨l, e⟩ | _ | _
  · simp only [WE]
    rcases l with _ | ⟨x, _ | ⟨y, _ | _⟩⟩ <;> simp only [WS]
    rcases e[i]? with _ | _ | ⟨_ | _ | _, _⟩ <;> rcases e[j]? with _ | _ | ⟨_ | _ | _, _⟩ <;> rfl
  · rfl
  · rfl
theorem WS_aug {i : Nat} {f : Int → Int → Int} {m : M PV} : WS (sAug i f m env) N D = WO env[i]? fun n => WO n fun p => isI p.2 fun x => WE (m env) (kAug i f N x) D.ex := by
  unfold sAug
  rcases env[i]? with _ | _ | ⟨k, x⟩
  · rfl
  · rfl
  · cases x with
    | int x =>
      simp only [WO_some, isI_int]
      rcases m env with ⟨y, e⟩ | _ | _
      · cases y with
        | int y =>
          show _ = kAug i f N x (.int y) e
          unfold kAug
          simp only [isI_int]
          rcases e[i]? with _ | _ | ⟨_ | _ | _, _⟩ <;> rfl
        | _ => rfl
      · rfl
      · rfl
    | _ => rfl
/-! what is walked -/
theorem WE_src {f : List PV → Option (List PV)} {ops : List Op} : WE (mSrc f ops env) KL X = WE (evOps ops env) (kSrc f ops KL) X := by
  unfold mSrc
  rw [WE_bind]
  congr 1
  funext l e
  unfold kSrc
  cases lookS ops l e with
  | none => rfl
  | some xs =>
    simp only [WO_some]
    cases f xs with
    | none => rfl
    | some is =>
      simp only [WO_some]
      by_cases h : PV.frees is = true <;> simp [h, WE]
theorem lookS_nil : lookS [] [] env = some [] := rfl
theorem lookS_v {i : Nat} {r : List Op} {o : Option PV} {l : List (Option PV)} : lookS (.v i :: r) (o :: l) env = (match env[i]? with | some (some (k, x)) => if x.free || k == Kd.bor then (lookS r l env).map (x :: ·) else none | _ => none) := by
  show (match env[i]? with | some (some (k, x)) => if x.free || k == Kd.bor then (match lookS r l env with | some xs => some (x :: xs) | none => none) else none | _ => none) = _
  rcases env[i]? with _ | _ | ⟨k, x⟩ <;> first | rfl | (simp only; cases lookS r l env <;> rfl)
theorem lookS_m {m : M PV} {r : List Op} {x : PV} {l : List (Option PV)} : lookS (.m m :: r) (some x :: l) env = (lookS r l env).map (x.frz :: ·) := by
  show (match lookS r l env with | some xs => some (x.frz :: xs) | none => none) = _
  cases lookS r l env <;> rfl
theorem WS_for {src : Src} {g : Bnd} {body : SM} : WS (sFor src g body env) N D = WE (src env) (kFor g body N D) D.ex := by
  unfold sFor
  cases src env <;> rfl
theorem WS_for_nil {g : Bnd} {body : SM} : WS (mFor g body [] env) N D = N env := rfl
theorem WS_for_cons {g : Bnd} {body : SM} {x : PV} {r : List PV} : WS (mFor g body (x :: r) env) N D = WO (g x env) fun e => WS (body e) (fun e => WS (mFor g body r e) N D) ⟨D.rt, N, fun e => WS (mFor g body r e) N D, D.ex⟩ := by
  show WS (match g x env with | none => .bad | some env1 => match body env1 with | .nx e => mFor g body r e | .ct e => mFor g body r e | .bk e => .nx e | o => o) N D = _
  cases g x env with
  | none => rfl
  | some e =>
    simp only [WO_some]
    cases body e <;> rfl
/-- a loop by what holds ahead of each turn -/
theorem WS_for_inv {g : Bnd} {body : SM} (I : List PV → Env → Prop) : ∀ {is : List PV} {env : Env}, I is env →
    (∀ x r env, I (x :: r) env → WO (g x env) fun e => WS (body e) (I r) ⟨D.rt, N, I r, D.ex⟩) → (∀ env, I [] env → N env) → WS (mFor g body is env) N D
  | [], env, h, st, e => by rw [WS_for_nil]; exact e _ h
  | x :: r, env, h, st, e => by
    rw [WS_for_cons]
    have q := st x r env h
    cases hg : g x env with
    | none => rw [hg] at q; exact q
    | some e1 =>
      rw [hg] at q
      simp only [WO_some] at q ⊢
      exact q.mono' (fun e' h' => WS_for_inv I h' st e) (fun _ _ h => h) (fun _ h => h) (fun e' h' => WS_for_inv I h' st e) (fun _ _ _ h => h)
theorem WS_while0 {c : M Bool} {body : SM} : WS (mWhile c body 0 env) N D = False := rfl
theorem WS_while {c : M Bool} {body : SM} {n : Nat} : WS (mWhile c body (n + 1) env) N D = WE (c env) (kWh c body n N D) D.ex := by
  show WS (match c env with | .ok true e => (match body e with | .nx e2 => mWhile c body n e2 | .ct e2 => mWhile c body n e2 | .bk e2 => .nx e2 | o => o) | .ok false e => .nx e | .exc c xs e => .exc c xs e | .bad => .bad) N D = _
  rcases c env with ⟨_ | _, e⟩ | _ | _
  · rfl
  · simp only [WE, kWh, if_true]
    cases body e <;> rfl
  · rfl
  · rfl
theorem WS_while_inv {c : M Bool} {body : SM} (I : Nat → Env → Prop) (st : ∀ n env, I n env → WE (c env) (fun t e => if t then ∃ n', n = n' + 1 ∧ WS (body e) (I n') ⟨D.rt, N, I n', D.ex⟩ else N e) D.ex) : ∀ {n m : Nat} {env : Env}, n < m → I n env → WS (mWhile c body m env) N D
  | n, 0, env, l, h => absurd l (Nat.not_lt_zero _)
  | n, m + 1, env, l, h => by
    rw [WS_while]
    unfold kWh
    refine (st n env h).mono (fun t e q => ?_) (fun _ _ _ h => h)
    cases t with
    | false => exact q
    | true =>
      obtain ⟨n', e', q⟩ := q
      exact q.mono' (fun e' h' => WS_while_inv I st (by omega) h') (fun _ _ h => h) (fun _ h => h) (fun e' h' => WS_while_inv I st (by omega) h') (fun _ _ _ h => h)
/-! comprehensions -/
theorem WE_lc {src : Src} {vs : List Nat} {g : Bnd} {tt : M Bool} {te : M PV} : WE (eLc src vs g tt te env) KP X = WE (src env) (kLc vs g tt te KP) X := by
  unfold eLc
  rcases src env with ⟨is, e⟩ | _ | _
  · show _ = kLc vs g tt te KP is e
    unfold kLc
    by_cases h : is.length < CAP ∧ vs.all (keptE e) = true ∧ vs.Nodup
    · simp only [h, if_true, true_and, and_self]
      cases mLc vs g tt te is e <;> rfl
    · simp only [h, if_false, false_and]
      rfl
  · rfl
  · rfl
theorem WE_q {src : Src} {vs : List Nat} {g : Bnd} {go : Bool} {te : M PV} : WE (eQ src vs g go te env) KP X = WE (src env) (kQ vs g go te KP) X := by
  unfold eQ
  rcases src env with ⟨is, e⟩ | _ | _
  · show _ = kQ vs g go te KP is e
    unfold kQ
    by_cases h : vs.all (keptE e) = true ∧ vs.Nodup
    · simp only [h, if_true, true_and, and_self]
      cases mQ vs g go te is e <;> rfl
    · simp only [h, if_false, false_and]
      rfl
  · rfl
  · rfl
/-- all, any over data, nothing else changed: e0 is what stands there with the walk's names empty -/
theorem mQ_all {vs : List Nat} {g : Bnd} {te : M PV} {e0 : Env} {F : PV → Bool} : ∀ {is : List PV} {env : Env}, wipeE env vs = some e0 → (∀ x, x ∈ is → ∃ e1 e2, g x e0 = some e1 ∧ te e1 = .ok (.bl (F x)) e2 ∧ wipeE e2 vs = some e0) → mQ vs g true te is env = .ok (is.all F) e0
  | [], env, w, h => by
    show (match wipeE env vs with | some e0 => Out.ok true e0 | none => .bad) = _
    rw [w]
    rfl
  | x :: r, env, w, h => by
    obtain ⟨e1, e2, h1, h2, h3⟩ := h x (List.mem_cons_self ..)
    unfold mQ
    rw [w]
    simp only [h1, h2]
    cases hF : F x with
    | true =>
      simp only [if_true, List.all_cons, hF, Bool.true_and]
      exact mQ_all h3 fun y hy => h y (List.mem_cons_of_mem _ hy)
    | false =>
      simp only [Bool.false_eq_true, if_false, h3, List.all_cons, hF, Bool.false_and, Bool.not_true]
theorem mQ_any {vs : List Nat} {g : Bnd} {te : M PV} {e0 : Env} {F : PV → Bool} : ∀ {is : List PV} {env : Env}, wipeE env vs = some e0 → (∀ x, x ∈ is → ∃ e1 e2, g x e0 = some e1 ∧ te e1 = .ok (.bl (F x)) e2 ∧ wipeE e2 vs = some e0) → mQ vs g false te is env = .ok (is.any F) e0
  | [], env, w, h => by
    show (match wipeE env vs with | some e0 => Out.ok false e0 | none => .bad) = _
    rw [w]
    rfl
  | x :: r, env, w, h => by
    obtain ⟨e1, e2, h1, h2, h3⟩ := h x (List.mem_cons_self ..)
    unfold mQ
    rw [w]
    simp only [h1, h2]
    cases hF : F x with
    | false =>
      simp only [if_true, List.any_cons, hF, Bool.false_or]
      exact mQ_any h3 fun y hy => h y (List.mem_cons_of_mem _ hy)
    | true =>
      simp only [Bool.true_eq_false, if_false, h3, List.any_cons, hF, Bool.true_or, Bool.not_false]
/-- a comprehension that changes nothing -/
theorem mLc_map {vs : List Nat} {g : Bnd} {tt : M Bool} {te : M PV} {e0 : Env} {P : PV → Bool} {F : PV → PV} : ∀ {is : List PV} {env : Env}, wipeE env vs = some e0 → (∀ x, x ∈ is → ∃ e1 e2, g x e0 = some e1 ∧ tt e1 = .ok (P x) e2 ∧ (P x = false → wipeE e2 vs = some e0) ∧ (P x = true → ∃ e3, te e2 = .ok (F x) e3 ∧ wipeE e3 vs = some e0)) → mLc vs g tt te is env = .ok ((is.filter P).map F) e0
  | [], env, w, h => by
    show (match wipeE env vs with | some e0 => Out.ok [] e0 | none => .bad) = _
    rw [w]
    rfl
  | x :: r, env, w, h => by
    obtain ⟨e1, e2, h1, h2, h3, h4⟩ := h x (List.mem_cons_self ..)
    unfold mLc
    rw [w]
    simp only [h1, h2]
    cases hP : P x with
    | false =>
      simp only [List.filter_cons, hP, Bool.false_eq_true, if_false]
      exact mLc_map (h3 hP) fun y hy => h y (List.mem_cons_of_mem _ hy)
    | true =>
      obtain ⟨e3, h5, h6⟩ := h4 hP
      simp only [h5, mLc_map h6 fun y hy => h y (List.mem_cons_of_mem _ hy), List.filter_cons, hP, if_true, List.map_cons]
/-- a comprehension by what holds ahead of each turn, and of what is told -/
theorem WE_mLc {vs : List Nat} {g : Bnd} {tt : M Bool} {te : M PV} (I : List PV → Env → Prop) (R : List PV → List PV → Prop) (r0 : R [] []) : ∀ {is : List PV} {env : Env}, I is env → (∀ r env, I r env → WO (wipeE env vs) fun e0 => I r e0) →
    (∀ x r env, I (x :: r) env → wipeE env vs = some env → WO (g x env) fun e1 => WE (tt e1) (fun t e2 => if t then WE (te e2) (fun y e3 => I r e3 ∧ ∀ l, R r l → R (x :: r) (y :: l)) fun _ _ _ => False else I r e2 ∧ ∀ l, R r l → R (x :: r) l) fun _ _ _ => False) →
    (∀ env e0, wipeE env vs = some e0 → wipeE e0 vs = some e0) →
    WE (mLc vs g tt te is env) (fun l e => R is l ∧ I [] e) fun _ _ _ => False
  | [], env, h, w, st, ww => by
    have q := w _ _ h
    unfold mLc
    rcases hw : wipeE env vs with _ | e0
    · rw [hw] at q; exact q
    · rw [hw] at q; exact ⟨r0, q⟩
  | x :: r, env, h, w, st, ww => by
    have q := w _ _ h
    unfold mLc
    rcases hw : wipeE env vs with _ | e0
    · rw [hw] at q; exact q
    · rw [hw] at q
      have s := st x r e0 q (ww _ _ hw)
      simp only
      rcases hg : g x e0 with _ | e1
      · rw [hg] at s; exact s
      · rw [hg] at s
        simp only [WO_some] at s ⊢
        rcases htt : tt e1 with ⟨t, e2⟩ | _ | _
        · rw [htt] at s
          simp only [WE] at s
          cases t with
          | false =>
            simp only [Bool.false_eq_true, if_false] at s
            exact (WE_mLc I R r0 s.1 w st ww).mono (fun l e hl => ⟨s.2 _ hl.1, hl.2⟩) fun _ _ _ h => h
          | true =>
            simp only [if_true] at s
            rcases hte : te e2 with ⟨y, e3⟩ | _ | _
            · rw [hte] at s
              simp only [WE] at s
              have ih := WE_mLc I R r0 s.1 w st ww
              simp only [hte]
              rcases hm : mLc vs g tt te r e3 with ⟨l, e⟩ | _ | _
              · rw [hm] at ih
                exact ⟨s.2 _ ih.1, ih.2⟩
              · rw [hm] at ih; exact ih
              · rw [hm] at ih; exact ih
            · rw [hte] at s; exact s.elim
            · rw [hte] at s; exact s.elim
        · rw [htt] at s; exact s
        · rw [htt] at s; exact s
theorem WE.eqX {α : Type} {o : Out α} {a : α} {P : Env → Prop} (h : WE o (fun x e => x = a ∧ P e) noX) : ∃ e, o = .ok a e ∧ P e := by
  cases o with
  | ok x e => exact ⟨e, by rw [h.1], h.2⟩
  | exc c xs e => exact h.elim
  | bad => exact h.elim
theorem WO.of {α : Type} {o : Option α} {K : α → Prop} (h : WO o K) : ∃ x, o = some x ∧ K x := by
  cases o with
  | some x => exact ⟨x, rfl, h⟩
  | none => exact h.elim
theorem WQ_all {vs : List Nat} {g : Bnd} {te : M PV} {is : List PV} {env : Env} {K : Bool → Env → Prop} (F : PV → Bool) (e0 : Env) (w : wipeE env vs = some e0) (h : ∀ x, x ∈ is → WO (g x e0) fun e1 => WE (te e1) (fun y e2 => y = .bl (F x) ∧ wipeE e2 vs = some e0) noX) (k : K (is.all F) e0) : WE (mQ vs g true te is env) K noX := by
  rw [mQ_all w fun x hx => ?_]
  · exact k
  · obtain ⟨e1, h1, h2⟩ := (h x hx).of
    obtain ⟨e2, h3, h4⟩ := h2.eqX
    exact ⟨e1, e2, h1, h3, h4⟩
theorem WQ_any {vs : List Nat} {g : Bnd} {te : M PV} {is : List PV} {env : Env} {K : Bool → Env → Prop} (F : PV → Bool) (e0 : Env) (w : wipeE env vs = some e0) (h : ∀ x, x ∈ is → WO (g x e0) fun e1 => WE (te e1) (fun y e2 => y = .bl (F x) ∧ wipeE e2 vs = some e0) noX) (k : K (is.any F) e0) : WE (mQ vs g false te is env) K noX := by
  rw [mQ_any w fun x hx => ?_]
  · exact k
  · obtain ⟨e1, h1, h2⟩ := (h x hx).of
    obtain ⟨e2, h3, h4⟩ := h2.eqX
    exact ⟨e1, e2, h1, h3, h4⟩
theorem WL_map {vs : List Nat} {g : Bnd} {tt : M Bool} {te : M PV} {is : List PV} {env : Env} {K : List PV → Env → Prop} (P : PV → Bool) (F : PV → PV) (e0 : Env) (w : wipeE env vs = some e0) (h : ∀ x, x ∈ is → WO (g x e0) fun e1 => WE (tt e1) (fun b e2 => b = P x ∧ (P x = false → wipeE e2 vs = some e0) ∧ (P x = true → WE (te e2) (fun y e3 => y = F x ∧ wipeE e3 vs = some e0) noX)) noX) (k : K ((is.filter P).map F) e0) : WE (mLc vs g tt te is env) K noX := by
  rw [mLc_map w fun x hx => ?_]
  · exact k
  · obtain ⟨e1, h1, h2⟩ := (h x hx).of
    obtain ⟨e2, h3, h4, h5⟩ := h2.eqX
    refine ⟨e1, e2, h1, h3, h4, fun q => ?_⟩
    obtain ⟨e3, h6, h7⟩ := (h5 q).eqX
    exact ⟨e3, h6, h7⟩
theorem WL_map1 {vs : List Nat} {g : Bnd} {te : M PV} {is : List PV} {env : Env} {K : List PV → Env → Prop} (F : PV → PV) (e0 : Env) (w : wipeE env vs = some e0) (h : ∀ x, x ∈ is → WO (g x e0) fun e1 => WE (te e1) (fun y e2 => y = F x ∧ wipeE e2 vs = some e0) noX) (k : K (is.map F) e0) : WE (mLc vs g cTrue te is env) K noX := by
  refine WL_map (fun _ => true) F e0 w (fun x hx => ?_) (by rw [List.filter_eq_self.mpr fun _ _ => rfl]; exact k)
  obtain ⟨e1, h1, h2⟩ := (h x hx).of
  rw [h1, WO_some, WE_cTrue]
  exact ⟨rfl, (fun q => absurd q (by decide)), fun _ => h2⟩
/-- a slot of the frame's own, or none -/
def Own (a : Ent) : Prop := a = none ∨ ∃ y, a = some (Kd.own, y)
theorem Own.non : Own none := .inl rfl
theorem Own.own {y : PV} : Own (some (.own, y)) := .inr ⟨y, rfl⟩
theorem Own.set {a : Ent} {P : Prop} (h : Own a) : setOk (some a) P = P := by
  rcases h with rfl | ⟨y, rfl⟩ <;> rfl
theorem Own.g {a : Ent} {i : Nat} {x : PV} {env : Env} (h : Own a) (e : env[i]? = some a) : gN i x env = some (env.set i (some (.own, x))) := by
  unfold gN
  rw [e]
  rcases h with rfl | ⟨y, rfl⟩ <;> rfl
inductive All2 {α β : Type} (R : α → β → Prop) : List α → List β → Prop where
  | nil : All2 R [] []
  | cons {a : α} {b : β} {as : List α} {bs : List β} (h : R a b) (t : All2 R as bs) : All2 R (a :: as) (b :: bs)
theorem All2.len {α β : Type} {R : α → β → Prop} {as : List α} {bs : List β} (h : All2 R as bs) : as.length = bs.length := by
  induction h with
  | nil => rfl
  | cons _ _ ih => simp [ih]
theorem All2.right {α β : Type} {R : α → β → Prop} {as : List α} {bs : List β} (h : All2 R as bs) : ∀ b ∈ bs, ∃ a ∈ as, R a b := by
  induction h with
  | nil => intro b hb; cases hb
  | cons h _ ih =>
    intro b hb
    rcases List.mem_cons.mp hb with rfl | hb
    · exact ⟨_, List.mem_cons_self, h⟩
    · obtain ⟨a, ha, q⟩ := ih b hb
      exact ⟨a, List.mem_cons_of_mem _ ha, q⟩
theorem All2.imp {α β : Type} {R S : α → β → Prop} {as : List α} {bs : List β} (h : All2 R as bs) (k : ∀ a b, R a b → S a b) : All2 S as bs := by
  induction h with
  | nil => exact .nil
  | cons h _ ih => exact .cons (k _ _ h) ih
/-- a comprehension that changes what stands there: J n what holds with n turns to go (the walk's names empty), R what an item gives -/
theorem WL_acc {vs : List Nat} {g : Bnd} {tt : M Bool} {te : M PV} (J : Nat → Env → Prop) (R : PV → PV → Prop) : ∀ {is : List PV} {env : Env} {K : List PV → Env → Prop}, WO (wipeE env vs) (J is.length) →
    (∀ x n e0, x ∈ is → J (n + 1) e0 → WO (g x e0) fun e1 => WE (tt e1) (fun b e2 => if b then WE (te e2) (fun y e3 => R x y ∧ WO (wipeE e3 vs) (J n)) noX else WO (wipeE e2 vs) (J n)) noX) →
    (∀ is' l e, is'.Sublist is → All2 R is' l → J 0 e → K l e) → WE (mLc vs g tt te is env) K noX
  | [], env, K, w, st, k => by
    unfold mLc
    obtain ⟨e0, h0, h1⟩ := w.of
    rw [h0]
    exact k [] [] e0 (List.Sublist.refl _) .nil h1
  | x :: r, env, K, w, st, k => by
    unfold mLc
    obtain ⟨e0, h0, h1⟩ := w.of
    rw [h0]
    have s := st x r.length e0 List.mem_cons_self h1
    obtain ⟨e1, hg, s⟩ := s.of
    simp only [hg]
    rcases htt : tt e1 with ⟨b, e2⟩ | _ | _
    · rw [htt] at s
      simp only [WE_ok] at s
      cases b with
      | false =>
        simp only [Bool.false_eq_true, if_false] at s
        exact WL_acc J R s (fun y n e0 hy => st y n e0 (List.mem_cons_of_mem _ hy)) fun is' l e hs ha h0 => k is' l e (hs.cons _) ha h0
      | true =>
        simp only [if_true] at s
        rcases hte : te e2 with ⟨y, e3⟩ | _ | _
        · rw [hte] at s
          simp only [WE_ok] at s
          have ih := WL_acc (K := fun l e => K (y :: l) e) J R s.2 (fun y n e0 hy => st y n e0 (List.mem_cons_of_mem _ hy)) fun is' l e hs ha h0 => k (x :: is') (y :: l) e (hs.cons_cons _) (.cons s.1 ha) h0
          simp only [hte]
          rcases hm : mLc vs g tt te r e3 with ⟨l, e⟩ | _ | _
          · rw [hm] at ih; exact ih
          · rw [hm] at ih; exact ih
          · rw [hm] at ih; exact ih
        · rw [hte] at s; exact s.elim
        · rw [hte] at s; exact s.elim
    · rw [htt] at s; exact s.elim
    · rw [htt] at s; exact s.elim
/-- the same, without a test -/
theorem WL_acc1 {vs : List Nat} {g : Bnd} {te : M PV} (J : Nat → Env → Prop) (R : PV → PV → Prop) : ∀ {is : List PV} {env : Env} {K : List PV → Env → Prop}, WO (wipeE env vs) (J is.length) →
    (∀ x n e0, x ∈ is → J (n + 1) e0 → WO (g x e0) fun e1 => WE (te e1) (fun y e3 => R x y ∧ WO (wipeE e3 vs) (J n)) noX) →
    (∀ l e, All2 R is l → J 0 e → K l e) → WE (mLc vs g cTrue te is env) K noX
  | [], env, K, w, st, k => by
    unfold mLc
    obtain ⟨e0, h0, h1⟩ := w.of
    rw [h0]
    exact k [] e0 .nil h1
  | x :: r, env, K, w, st, k => by
    unfold mLc
    obtain ⟨e0, h0, h1⟩ := w.of
    rw [h0]
    have s := st x r.length e0 List.mem_cons_self h1
    obtain ⟨e1, hg, s⟩ := s.of
    simp only [hg, cTrue]
    rcases hte : te e1 with ⟨y, e3⟩ | _ | _
    · rw [hte] at s
      simp only [WE_ok] at s
      have ih := WL_acc1 (K := fun l e => K (y :: l) e) J R s.2 (fun y n e0 hy => st y n e0 (List.mem_cons_of_mem _ hy)) fun l e ha h0 => k (y :: l) e (.cons s.1 ha) h0
      simp only
      rcases hm : mLc vs g cTrue te r e3 with ⟨l, e⟩ | _ | _
      · rw [hm] at ih; exact ih
      · rw [hm] at ih; exact ih.elim
      · rw [hm] at ih; exact ih.elim
    · rw [hte] at s; exact s.elim
    · rw [hte] at s; exact s.elim
end
end Ev

set_option Elab.async false
set_option linter.all false
set_option maxRecDepth 100000
set_option maxHeartbeats 2000000
/-! What operations on data give. -/
namespace Ev
open PySem PySem.Spec PyProof.Rows L2 GxR Gx Gq
variable {K : PV → Prop} {KB : Bool → Prop} {i j : Int} {x y : Str} {o o' : Bool} {xs ys : List PV}
theorem frzs_of : ∀ {xs : List PV}, (∀ x ∈ xs, x.frz = x) → PV.frzs xs = xs
  | [], _ => rfl
  | x :: xs, h => by
    show x.frz :: PV.frzs xs = _
    rw [h x (List.mem_cons_self ..), frzs_of fun y hy => h y (List.mem_cons_of_mem _ hy)]
mutual
theorem frz_free : ∀ {x : PV}, x.free = true → x.frz = x
  | .non, _ => rfl
  | .bl _, _ => rfl
  | .int _, _ => rfl
  | .str _, _ => rfl
  | .tup xs, h => by show PV.tup (PV.frzs xs) = _; rw [frzs_free (xs := xs) h]
  | .lst false xs, h => by show PV.lst false (PV.frzs xs) = _; rw [frzs_free (xs := xs) (by simpa [PV.free] using h)]
  | .lst true xs, h => by simp [PV.free] at h
  | .dct false ks xs, h => by show PV.dct false ks (PV.frzs xs) = _; rw [frzs_free (xs := xs) (by simpa [PV.free] using h)]
  | .dct true ks xs, h => by simp [PV.free] at h
  | .rol xs, h => by show PV.rol (PV.frzs xs) = _; rw [frzs_free (xs := xs) h]
  | .err _, _ => rfl
  | .dtt false ks xs, h => by show PV.dtt false ks (PV.frzs xs) = _; rw [frzs_free (xs := xs) (by simpa [PV.free] using h)]
  | .dtt true ks xs, h => by simp [PV.free] at h
theorem frzs_free : ∀ {xs : List PV}, PV.frees xs = true → PV.frzs xs = xs
  | [], _ => rfl
  | x :: xs, h => by
    have h' : x.free = true ∧ PV.frees xs = true := by simpa [PV.frees] using h
    show x.frz :: PV.frzs xs = _
    rw [frz_free h'.1, frzs_free h'.2]
end
mutual
theorem free_frz : ∀ {x : PV}, x.frz.free = true
  | .non => rfl
  | .bl _ => rfl
  | .int _ => rfl
  | .str _ => rfl
  | .tup xs => frees_frz (xs := xs)
  | .lst _ xs => by show (!false && PV.frees (PV.frzs xs)) = true; rw [frees_frz] <;> rfl
  | .dct _ ks xs => by show (!false && PV.frees (PV.frzs xs)) = true; rw [frees_frz] <;> rfl
  | .rol xs => frees_frz (xs := xs)
  | .err _ => rfl
  | .dtt _ ks xs => by show (!false && PV.frees (PV.frzs xs)) = true; rw [frees_frz] <;> rfl
theorem frees_frz : ∀ {xs : List PV}, PV.frees (PV.frzs xs) = true
  | [] => rfl
  | x :: xs => by show (x.frz.free && PV.frees (PV.frzs xs)) = true; rw [free_frz, frees_frz] <;> rfl
end
theorem frees_all {xs : List PV} : PV.frees xs = xs.all PV.free := by
  induction xs with
  | nil => rfl
  | cons x xs ih => show (x.free && PV.frees xs) = _; rw [ih] <;> rfl
theorem frees_mem {xs : List PV} : PV.frees xs = true ↔ ∀ x ∈ xs, x.free = true := by rw [frees_all, List.all_eq_true]
theorem frees_map {α : Type} {f : α → PV} {l : List α} (h : ∀ a ∈ l, (f a).free = true) : PV.frees (l.map f) = true := frees_mem.mpr fun x hx => by
  obtain ⟨a, ha, rfl⟩ := List.mem_map.mp hx
  exact h a ha
theorem frees_ints {l : List Int} : PV.frees (l.map .int) = true := frees_map fun _ _ => rfl
theorem frees_strs {l : List Str} : PV.frees (l.map .str) = true := frees_map fun _ _ => rfl
theorem frees_bls {α : Type} {l : List α} {p : α → Bool} : PV.frees (l.map fun x => PV.bl (p x)) = true := frees_map fun _ _ => rfl
theorem frees_intF {α : Type} {l : List α} {p : α → Int} : PV.frees (l.map fun x => PV.int (p x)) = true := frees_map fun _ _ => rfl
theorem frees_strF {α : Type} {l : List α} {p : α → Str} : PV.frees (l.map fun x => PV.str (p x)) = true := frees_map fun _ _ => rfl
theorem frzs_bls {α : Type} {l : List α} {p : α → Bool} : PV.frzs (l.map fun x => PV.bl (p x)) = l.map fun x => PV.bl (p x) := frzs_free frees_bls
theorem frzs_intF {α : Type} {l : List α} {p : α → Int} : PV.frzs (l.map fun x => PV.int (p x)) = l.map fun x => PV.int (p x) := frzs_free frees_intF
theorem frzs_strF {α : Type} {l : List α} {p : α → Str} : PV.frzs (l.map fun x => PV.str (p x)) = l.map fun x => PV.str (p x) := frzs_free frees_strF
theorem frees_appE {xs ys : List PV} : PV.frees (xs ++ ys) = (PV.frees xs && PV.frees ys) := by rw [frees_all, frees_all, frees_all, List.all_append]
theorem frzs_ints {l : List Int} : PV.frzs (l.map .int) = l.map .int := frzs_free frees_ints
theorem frzs_strs {l : List Str} : PV.frzs (l.map .str) = l.map .str := frzs_free frees_strs
/-! ### the forms of free, frz -/
theorem free_non : PV.non.free = true := rfl
theorem free_bl {b : Bool} : (PV.bl b).free = true := rfl
theorem free_int : (PV.int i).free = true := rfl
theorem free_str : (PV.str x).free = true := rfl
theorem free_tup : (PV.tup xs).free = PV.frees xs := rfl
theorem free_lstT : (PV.lst true xs).free = false := rfl
theorem free_lstF : (PV.lst false xs).free = PV.frees xs := by show (!false && PV.frees xs) = _; simp
theorem free_rol : (PV.rol xs).free = PV.frees xs := rfl
theorem frz_non : PV.non.frz = .non := rfl
theorem frz_bl {b : Bool} : (PV.bl b).frz = .bl b := rfl
theorem frz_int : (PV.int i).frz = .int i := rfl
theorem frz_str : (PV.str x).frz = .str x := rfl
theorem frz_tup : (PV.tup xs).frz = .tup (PV.frzs xs) := rfl
theorem frz_lst : (PV.lst o xs).frz = .lst false (PV.frzs xs) := rfl
theorem frz_rol : (PV.rol xs).frz = .rol (PV.frzs xs) := rfl
theorem frees_nil : PV.frees [] = true := rfl
theorem frees_cons {a : PV} : PV.frees (a :: xs) = (a.free && PV.frees xs) := rfl
theorem frzs_nil : PV.frzs [] = [] := rfl
theorem frzs_cons {a : PV} : PV.frzs (a :: xs) = a.frz :: PV.frzs xs := rfl
/-! ### numbers -/
theorem WO_add : WO (addP (.int i) (.int j)) K = K (.int (i + j)) := rfl
theorem WO_sub : WO (subI (.int i) (.int j)) K = K (.int (i - j)) := rfl
theorem WO_mul : WO (mulP (.int i) (.int j)) K = (mulC i j = true ∧ K (.int (i * j))) := by
  unfold mulP orF mulI iOp
  simp only
  by_cases h : mulC i j = true
  · simp only [h, if_true, WO_some, true_and]
  · rw [if_neg h]
    exact propext ⟨fun q => q.elim, fun q => (h q.1).elim⟩
theorem WO_mod : WO (modI (.int i) (.int j)) K = (0 < j ∧ K (.int (i % j))) := by
  unfold modI iOp
  simp only [decide_eq_true_eq, WO_ite]
theorem WO_div : WO (divI (.int i) (.int j)) K = ((0 < j ∧ j < 1073741824) ∧ K (.int (i / j))) := by
  unfold divI iOp
  simp only [Bool.and_eq_true, decide_eq_true_eq, WO_ite]
theorem WO_pow : WO (powI (.int i) (.int j)) K = ((0 ≤ j ∧ j ≤ 1000000 ∧ i.natAbs < 2 ^ 64) ∧ K (.int (i ^ j.toNat))) := by
  unfold powI iOp
  simp only [Bool.and_eq_true, decide_eq_true_eq, WO_ite]
theorem WO_neg : WO (negI (.int i)) K = K (.int (-i)) := rfl
theorem WO_lt : WO (ltI (.int i) (.int j)) K = K (.bl (decide (i < j))) := rfl
theorem WO_gt : WO (gtI (.int i) (.int j)) K = K (.bl (decide (j < i))) := rfl
theorem WO_ge : WO (geI (.int i) (.int j)) K = K (.bl (decide (j ≤ i))) := rfl
theorem WO_le : WO (leP (.int i) (.int j)) K = K (.bl (decide (i ≤ j))) := rfl
theorem WO_leS : WO (leP (.str x) (.str y)) K = K (.bl (!decide (y.cps.toList < x.cps.toList))) := rfl
theorem le_sg {a b : Nat} {z w : Str} (h1 : z.cps.toList = [a]) (h2 : w.cps.toList = [b]) : WO (leP (.str z) (.str w)) K = K (.bl (decide (a ≤ b))) := by
  rw [WO_leS]
  have e : (!decide (w.cps.toList < z.cps.toList)) = decide (a ≤ b) := by
    have q : w.cps.toList < z.cps.toList ↔ b < a := by
      rw [h1, h2, List.cons_lt_cons_iff]
      simp
    by_cases hl : a ≤ b
    · have n : ¬ w.cps.toList < z.cps.toList := fun m => by have := q.mp m; omega
      simp [n, hl]
    · have n : w.cps.toList < z.cps.toList := q.mpr (by omega)
      simp [n, hl]
  rw [e]
theorem le_blank {c : Nat} : WO (leP (.str " ") (.str ⟨#[c]⟩)) K = K (.bl (decide (32 ≤ c))) := le_sg (by decide +kernel) rfl
theorem le_tilde {c : Nat} : WO (leP (.str ⟨#[c]⟩) (.str "~")) K = K (.bl (decide (c ≤ 126))) := le_sg rfl (by decide +kernel)
theorem le_a {c : Nat} : WO (leP (.str "a") (.str ⟨#[c]⟩)) K = K (.bl (decide (97 ≤ c))) := le_sg (by decide +kernel) rfl
theorem le_z {c : Nat} : WO (leP (.str ⟨#[c]⟩) (.str "z")) K = K (.bl (decide (c ≤ 122))) := le_sg rfl (by decide +kernel)
theorem WO_max2 : WO (max2P (.int i) (.int j)) K = K (.int (max i j)) := by
  show K (.int (if j > i then j else i)) = _
  congr 2
  omega
theorem WO_min2 : WO (min2P (.int i) (.int j)) K = K (.int (min i j)) := by
  show K (.int (if j < i then j else i)) = _
  congr 2
  omega
theorem WO_intB {b : Bool} : WO (intP (.bl b)) K = K (.int (if b then 1 else 0)) := rfl
theorem WO_intI : WO (intP (.int i)) K = K (.int i) := rfl
theorem WO_strI : WO (strP (.int i)) K = (i.natAbs.log2 < 1920 ∧ K (.str (toString i))) := by
  show WO (if i.natAbs.log2 < 1920 then some (PV.str (toString i)) else none) K = _
  rw [WO_ite]
/-! ### texts -/
theorem WO_addS : WO (addP (.str x) (.str y)) K = (x.length + y.length ≤ CAP ∧ K (.str (x ++ y))) := by
  show WO (orF addI (orF addS (orF addT addL)) (.str x) (.str y)) K = _
  unfold orF addI iOp addS
  simp only
  by_cases h : x.length + y.length ≤ CAP
  · simp only [h, if_true, WO_some, true_and]
  · simp only [h, if_false, false_and]
    rfl
theorem WO_mulS : WO (mulP (.str x) (.int j)) K = ((x.length ≤ 1000 ∧ 0 ≤ j ∧ j ≤ 1000) ∧ K (.str (Txt.mul x j))) := by
  unfold mulP orF mulI iOp mulS
  simp only
  by_cases h : x.length ≤ 1000 ∧ 0 ≤ j ∧ j ≤ 1000
  · rw [if_pos h]; simp only [WO_some, h, true_and, and_self]
  · rw [if_neg h]; simp only [h, false_and]; exact eq_false fun q => q
theorem WO_ord1 {c : Nat} : WO (ordP (.str ⟨#[c]⟩)) K = K (.int c) := rfl
theorem WO_ord : WO (ordP (.str x)) K = (x.length = 1 ∧ K (.int (x.cps.getD 0 0 : Nat))) := by
  show WO (if x.length = 1 then some (PV.int (x.cps.getD 0 0 : Nat)) else none) K = _
  rw [WO_ite]
theorem WO_lenS : WO (lenP (.str x)) K = (x.length ≤ CAP ∧ K (.int x.length)) := by
  show WO (if x.length ≤ CAP then some (PV.int x.length) else none) K = _
  rw [WO_ite]
theorem WO_lenT : WO (lenP (.tup xs)) K = K (.int xs.length) := rfl
theorem WO_lenL : WO (lenP (.lst o xs)) K = K (.int xs.length) := rfl
theorem WO_lenR : WO (lenP (.rol xs)) K = K (.int xs.length) := rfl
/-! ### items -/
theorem WO_ixS : WO (itemQ (.str x) (.int i)) K = (x.length ≤ CAP ∧ WO (atI x.cps.toList i) fun c => K (.str ⟨#[c]⟩)) := by
  show WO (match (if x.length ≤ CAP then (match atI x.cps.toList i with | some c => some (PV.str ⟨#[c]⟩) | none => none) else none) with | some z => some z | none => none) K = _
  by_cases h : x.length ≤ CAP
  · simp only [h, if_true, true_and]
    cases atI x.cps.toList i <;> rfl
  · simp only [h, if_false, false_and]
    rfl
theorem WO_ixT : WO (itemQ (.tup xs) (.int i)) K = WO (atI xs i) fun y => y.free = true ∧ K y := by
  show WO (match (match atI xs i with | some y => if y.free then some y else none | none => none) with | some z => some z | none => none) K = _
  cases atI xs i with
  | none => rfl
  | some y =>
    simp only [WO_some]
    by_cases h : y.free = true
    · simp only [h, if_true, WO_some, true_and]
    · rw [if_neg h]; exact propext ⟨fun q => q.elim, fun q => (h q.1).elim⟩
theorem WO_ixL : WO (itemQ (.lst o xs) (.int i)) K = WO (atI xs i) fun y => y.free = true ∧ K y := by
  show WO (match (match atI xs i with | some y => if y.free then some y else none | none => none) with | some z => some z | none => none) K = _
  cases atI xs i with
  | none => rfl
  | some y =>
    simp only [WO_some]
    by_cases h : y.free = true
    · simp only [h, if_true, WO_some, true_and]
    · rw [if_neg h]; exact propext ⟨fun q => q.elim, fun q => (h q.1).elim⟩
theorem WO_ixR : WO (itemQ (.rol xs) (.int i)) K = WO (atI xs i) fun y => y.free = true ∧ K y := by
  show WO (match (match atI xs i with | some y => if y.free then some y else none | none => none) with | some z => some z | none => none) K = _
  cases atI xs i with
  | none => rfl
  | some y =>
    simp only [WO_some]
    by_cases h : y.free = true
    · simp only [h, if_true, WO_some, true_and]
    · rw [if_neg h]; exact propext ⟨fun q => q.elim, fun q => (h q.1).elim⟩
theorem atI_nat {α : Type} {l : List α} {n : Nat} : atI l (n : Int) = l[n]? := by
  unfold atI ixN
  rw [if_pos (Int.natCast_nonneg n)]
  by_cases h : n < l.length
  · rw [if_pos (by omega)]; simp
  · rw [if_neg (by omega)]; simp; omega
theorem atI_pos {α : Type} {l : List α} {i : Int} (h : 0 ≤ i) : atI l i = l[i.toNat]? := by
  obtain ⟨n, rfl⟩ := Int.eq_ofNat_of_zero_le h
  rw [atI_nat]; rfl
theorem WO_at {α : Type} {l : List α} {i : Int} {K : α → Prop} (h0 : 0 ≤ i) (h1 : i < l.length) (k : ∀ a, a ∈ l → l[i.toNat]? = some a → K a) : WO (atI l i) K := by
  rw [atI_pos h0]
  have hl : i.toNat < l.length := by omega
  rw [List.getElem?_eq_getElem hl, WO_some]
  exact k _ (List.getElem_mem hl) (List.getElem?_eq_getElem hl)
theorem at0 {α : Type} {a : α} {l : List α} : atI (a :: l) 0 = some a := by rw [atI_pos (by omega)]; rfl
theorem at1 {α : Type} {a b : α} {l : List α} : atI (a :: b :: l) 1 = some b := by rw [atI_pos (by omega)]; rfl
theorem at2 {α : Type} {a b c : α} {l : List α} : atI (a :: b :: c :: l) 2 = some c := by rw [atI_pos (by omega)]; rfl
theorem at3 {α : Type} {a b c d : α} {l : List α} : atI (a :: b :: c :: d :: l) 3 = some d := by rw [atI_pos (by omega)]; rfl
theorem at4 {α : Type} {a b c d e : α} {l : List α} : atI (a :: b :: c :: d :: e :: l) 4 = some e := by rw [atI_pos (by omega)]; rfl
theorem at5 {α : Type} {a b c d e f : α} {l : List α} : atI (a :: b :: c :: d :: e :: f :: l) 5 = some f := by rw [atI_pos (by omega)]; rfl
theorem at6 {α : Type} {a b c d e f g : α} {l : List α} : atI (a :: b :: c :: d :: e :: f :: g :: l) 6 = some g := by rw [atI_pos (by omega)]; rfl
theorem at7 {α : Type} {a b c d e f g h : α} {l : List α} : atI (a :: b :: c :: d :: e :: f :: g :: h :: l) 7 = some h := by rw [atI_pos (by omega)]; rfl
/-! ### types -/
theorem WO_isi {n : String} {x : PV} {t : String} (h : tyP x = some t) : WO (isiP n x) K = K (.bl (isTy t n)) := by
  unfold isiP
  rw [h]; rfl
theorem ty_non : tyP .non = some "NoneType" := rfl
theorem ty_bl {b : Bool} : tyP (.bl b) = some "bool" := rfl
theorem ty_int : tyP (.int i) = some "int" := rfl
theorem ty_str : tyP (.str x) = some "str" := rfl
theorem ty_tup : tyP (.tup xs) = some "tuple" := rfl
theorem ty_lstE : tyP (.lst o xs) = some "list" := rfl
theorem ty_dct {ks : List Key} : tyP (.dct o ks xs) = some "dict" := rfl
theorem isi_non {n : String} : WO (isiP n .non) K = K (.bl (isTy "NoneType" n)) := rfl
theorem isi_bl {n : String} {b : Bool} : WO (isiP n (.bl b)) K = K (.bl (isTy "bool" n)) := rfl
theorem isi_int {n : String} : WO (isiP n (.int i)) K = K (.bl (isTy "int" n)) := rfl
theorem isi_str {n : String} : WO (isiP n (.str x)) K = K (.bl (isTy "str" n)) := rfl
theorem isi_tup {n : String} : WO (isiP n (.tup xs)) K = K (.bl (isTy "tuple" n)) := rfl
theorem isi_lst {n : String} : WO (isiP n (.lst o xs)) K = K (.bl (isTy "list" n)) := rfl
theorem isi_dct {n : String} {ks : List Key} : WO (isiP n (.dct o ks xs)) K = K (.bl (isTy "dict" n)) := rfl
theorem tys_non {n : List String} : WO (tysP n .non) K = K (.bl (n.any fun m => isTy "NoneType" m)) := rfl
theorem tys_bl {n : List String} {b : Bool} : WO (tysP n (.bl b)) K = K (.bl (n.any fun m => isTy "bool" m)) := rfl
theorem tys_int {n : List String} : WO (tysP n (.int i)) K = K (.bl (n.any fun m => isTy "int" m)) := rfl
theorem tys_str {n : List String} : WO (tysP n (.str x)) K = K (.bl (n.any fun m => isTy "str" m)) := rfl
theorem tys_tup {n : List String} : WO (tysP n (.tup xs)) K = K (.bl (n.any fun m => isTy "tuple" m)) := rfl
theorem tys_lst {n : List String} : WO (tysP n (.lst o xs)) K = K (.bl (n.any fun m => isTy "list" m)) := rfl
theorem tys_dct {n : List String} {ks : List Key} : WO (tysP n (.dct o ks xs)) K = K (.bl (n.any fun m => isTy "dict" m)) := rfl
theorem WO_tys {n : List String} {x : PV} {t : String} (h : tyP x = some t) : WO (tysP n x) K = K (.bl (n.any fun m => isTy t m)) := by
  unfold tysP
  rw [h]; rfl
theorem isTy_NoneType_str : isTy "NoneType" "str" = false := by decide
theorem isTy_NoneType_int : isTy "NoneType" "int" = false := by decide
theorem isTy_NoneType_bool : isTy "NoneType" "bool" = false := by decide
theorem isTy_NoneType_tuple : isTy "NoneType" "tuple" = false := by decide
theorem isTy_NoneType_list : isTy "NoneType" "list" = false := by decide
theorem isTy_bool_str : isTy "bool" "str" = false := by decide
theorem isTy_bool_int : isTy "bool" "int" = true := by decide
theorem isTy_bool_bool : isTy "bool" "bool" = true := by decide
theorem isTy_bool_tuple : isTy "bool" "tuple" = false := by decide
theorem isTy_bool_list : isTy "bool" "list" = false := by decide
theorem isTy_int_str : isTy "int" "str" = false := by decide
theorem isTy_int_int : isTy "int" "int" = true := by decide
theorem isTy_int_bool : isTy "int" "bool" = false := by decide
theorem isTy_int_tuple : isTy "int" "tuple" = false := by decide
theorem isTy_int_list : isTy "int" "list" = false := by decide
theorem isTy_str_str : isTy "str" "str" = true := by decide
theorem isTy_str_int : isTy "str" "int" = false := by decide
theorem isTy_str_bool : isTy "str" "bool" = false := by decide
theorem isTy_str_tuple : isTy "str" "tuple" = false := by decide
theorem isTy_str_list : isTy "str" "list" = false := by decide
theorem isTy_tuple_str : isTy "tuple" "str" = false := by decide
theorem isTy_tuple_int : isTy "tuple" "int" = false := by decide
theorem isTy_tuple_bool : isTy "tuple" "bool" = false := by decide
theorem isTy_tuple_tuple : isTy "tuple" "tuple" = true := by decide
theorem isTy_tuple_list : isTy "tuple" "list" = false := by decide
theorem isTy_list_str : isTy "list" "str" = false := by decide
theorem isTy_list_int : isTy "list" "int" = false := by decide
theorem isTy_list_bool : isTy "list" "bool" = false := by decide
theorem isTy_list_tuple : isTy "list" "tuple" = false := by decide
theorem isTy_list_list : isTy "list" "list" = true := by decide
theorem isTy_dict_str : isTy "dict" "str" = false := by decide
theorem isTy_dict_int : isTy "dict" "int" = false := by decide
theorem isTy_dict_bool : isTy "dict" "bool" = false := by decide
theorem isTy_dict_tuple : isTy "dict" "tuple" = false := by decide
theorem isTy_dict_list : isTy "dict" "list" = false := by decide
/-! ### comparisons -/
theorem WO_l2 {f : PV → PV → Option Bool} {g : Bool → Bool} {a b : PV} : WO (lift2 f g a b) K = WO (f a b) fun t => K (.bl (g t)) := by
  unfold lift2
  cases f a b <;> rfl
theorem WB_eqI : WO (eqP (.int i) (.int j)) KB = KB (i == j) := rfl
theorem WB_eqS : WO (eqP (.str x) (.str y)) KB = KB (x == y) := rfl
theorem WB_eqB {a b : Bool} : WO (eqP (.bl a) (.bl b)) KB = KB (a == b) := rfl
theorem WB_eqSN : WO (eqP (.str x) .non) KB = KB false := rfl
theorem WB_eqNS : WO (eqP .non (.str x)) KB = KB false := rfl
theorem WB_eqSI : WO (eqP (.str x) (.int i)) KB = KB false := rfl
theorem WB_eqIS : WO (eqP (.int i) (.str x)) KB = KB false := rfl
theorem WB_eqBS {b : Bool} : WO (eqP (.bl b) (.str x)) KB = KB false := rfl
theorem WB_isN : WO (isN .non .non) KB = KB true := rfl
theorem WB_isNI : WO (isN (.int i) .non) KB = KB false := rfl
theorem WB_isNS : WO (isN (.str x) .non) KB = KB false := rfl
theorem WB_isNB {b : Bool} : WO (isN (.bl b) .non) KB = KB false := rfl
theorem WB_isNT : WO (isN (.tup xs) .non) KB = KB false := rfl
theorem WB_isNL : WO (isN (.lst o xs) .non) KB = KB false := rfl
theorem WB_isNd {a : PV} (h : a ≠ .non) : WO (isN a .non) KB = KB false := by
  cases a <;> first | rfl | exact absurd rfl h
theorem WB_isB {a b : Bool} : WO (isB (.bl a) (.bl b)) KB = KB (decide (a = b)) := rfl
theorem WB_truB {b : Bool} : WO (truP (.bl b)) KB = KB b := rfl
theorem WB_truI : WO (truP (.int i)) KB = KB (i != 0) := rfl
theorem WB_truN : WO (truP .non) KB = KB false := rfl
theorem WB_truT : WO (truP (.tup xs)) KB = KB (!xs.isEmpty) := rfl
theorem WB_truL : WO (truP (.lst o xs)) KB = KB (!xs.isEmpty) := rfl
theorem WB_truS : WO (truP (.str x)) KB = (x.length ≤ CAP ∧ KB ((x.length : Int) != 0)) := by
  show WO (if x.length ≤ CAP then some ((x.length : Int) != 0) else none) KB = _
  rw [WO_ite]
/-! ### membership -/
theorem WO_inSq {n : Bool} {a b : PV} (h : seqP b = some ys) : WO (inQ n a b) K = ((flatP a = true ∧ ys.all flatP = true) ∧ K (.bl (if n then !(ys.any fun y => eqFP y a) else ys.any fun y => eqFP y a))) := by
  unfold inQ inP orF inSeqP
  rw [h]
  simp only
  by_cases c : (flatP a && ys.all flatP) = true
  · rw [if_pos c]
    rw [Bool.and_eq_true] at c
    simp only [WO_some, c, true_and, and_self]
  · rw [if_neg c]
    rw [Bool.and_eq_true] at c
    simp only [c, false_and]
    have hb : inSgn n a b = none := by
      unfold inSgn
      split
      · rename_i z; simp [seqP] at h
      · rfl
    have hd : dinP n a b = none := by
      unfold dinP
      split
      · simp [seqP] at h
      · rfl
    rw [hb, hd]
    rfl
theorem WO_inT {n : Bool} {a : PV} : WO (inQ n a (.tup ys)) K = ((flatP a = true ∧ ys.all flatP = true) ∧ K (.bl (if n then !(ys.any fun y => eqFP y a) else ys.any fun y => eqFP y a))) := WO_inSq rfl
theorem WO_inL {n : Bool} {a : PV} : WO (inQ n a (.lst o ys)) K = ((flatP a = true ∧ ys.all flatP = true) ∧ K (.bl (if n then !(ys.any fun y => eqFP y a) else ys.any fun y => eqFP y a))) := WO_inSq rfl
theorem flat_strs {l : List Str} : (l.map PV.str).all flatP = true := by
  rw [List.all_eq_true]
  intro x hx
  obtain ⟨z, _, rfl⟩ := List.mem_map.mp hx
  rfl
theorem any_strs {l : List Str} {z : Str} : ((l.map PV.str).any fun y => eqFP y (.str z)) = decide (z ∈ l) := by
  induction l with
  | nil => simp
  | cons a l ih =>
    simp only [List.map_cons, List.any_cons, ih]
    show (a == z || decide (z ∈ l)) = _
    by_cases e : a = z
    · subst e; simp
    · have e' : ¬ z = a := fun q => e q.symm
      simp [e, e']
theorem WO_inSg {n : Bool} {c : Nat} : WO (inQ n (.str ⟨#[c]⟩) (.str y)) K = K (.bl (if n then !decide (c ∈ y.cps.toList) else decide (c ∈ y.cps.toList))) := by
  unfold inQ inP orF inSeqP inSgn
  simp only [seqP]
  rfl
/-! ### sequences -/
theorem WO_addT : WO (addP (.tup xs) (.tup ys)) K = ((PV.frees xs = true ∧ PV.frees ys = true ∧ xs.length + ys.length ≤ CAP) ∧ K (.tup (xs ++ ys))) := by
  show WO (orF addI (orF addS (orF addT addL)) (.tup xs) (.tup ys)) K = _
  unfold orF addI iOp addS addT
  simp only [Bool.and_eq_true, decide_eq_true_eq]
  by_cases h : PV.frees xs = true ∧ PV.frees ys = true ∧ xs.length + ys.length ≤ CAP
  · rw [if_pos h]; simp only [WO_some, h, true_and, and_self]
  · rw [if_neg h]; simp only [h, false_and]; exact eq_false fun q => q
theorem WO_addL : WO (addP (.lst o xs) (.lst o' ys)) K = ((PV.frees xs = true ∧ PV.frees ys = true ∧ xs.length + ys.length ≤ CAP) ∧ K (.lst true (xs ++ ys))) := by
  show WO (orF addI (orF addS (orF addT addL)) (.lst o xs) (.lst o' ys)) K = _
  unfold orF addI iOp addS addT addL
  simp only [Bool.and_eq_true, decide_eq_true_eq]
  by_cases h : PV.frees xs = true ∧ PV.frees ys = true ∧ xs.length + ys.length ≤ CAP
  · rw [if_pos h]; simp only [WO_some, h, true_and, and_self]
  · rw [if_neg h]; simp only [h, false_and]; exact eq_false fun q => q
theorem WO_listT : WO (listP (.tup xs)) K = (PV.frees xs = true ∧ K (.lst true xs)) := by
  show WO (if PV.frees xs then some (PV.lst true xs) else none) K = _
  rw [WO_ite]
theorem WO_listL : WO (listP (.lst o xs)) K = (PV.frees xs = true ∧ K (.lst true xs)) := by
  show WO (if PV.frees xs then some (PV.lst true xs) else none) K = _
  rw [WO_ite]
theorem WO_tupL : WO (tupleP (.lst o xs)) K = (PV.frees xs = true ∧ K (.tup xs)) := by
  show WO (if PV.frees xs then some (PV.tup xs) else none) K = _
  rw [WO_ite]
theorem WO_tupT : WO (tupleP (.tup xs)) K = (PV.frees xs = true ∧ K (.tup xs)) := by
  show WO (if PV.frees xs then some (PV.tup xs) else none) K = _
  rw [WO_ite]
theorem sl0 {a : PV} : slF0 [a] = slP none none a := rfl
theorem sllo {a : PV} : slFlo [a, .int i] = slP (some i) none a := rfl
theorem slhi {a : PV} : slFhi [a, .int i] = slP none (some i) a := rfl
theorem sl2 {a : PV} : slF2 [a, .int i, .int j] = slP (some i) (some j) a := rfl
theorem WO_slS {lo hi : Option Int} : WO (slP lo hi (.str x)) K = (x.length ≤ CAP ∧ K (.str (cutS x lo hi))) := by
  show WO (if x.length ≤ CAP then some (PV.str (cutS x lo hi)) else none) K = _
  rw [WO_ite]
theorem WO_slT {lo hi : Option Int} : WO (slP lo hi (.tup xs)) K = (PV.frees xs = true ∧ K (.tup (cutP xs lo hi))) := by
  show WO (if PV.frees xs then some (PV.tup (cutP xs lo hi)) else none) K = _
  rw [WO_ite]
theorem WO_slL {lo hi : Option Int} : WO (slP lo hi (.lst o xs)) K = (PV.frees xs = true ∧ K (.lst true (cutP xs lo hi))) := by
  show WO (if PV.frees xs then some (PV.lst true (cutP xs lo hi)) else none) K = _
  rw [WO_ite]
theorem WO_slR {lo hi : Option Int} : WO (slP lo hi (.rol xs)) K = (PV.frees xs = true ∧ K (.lst true (cutP xs lo hi))) := by
  show WO (if PV.frees xs then some (PV.lst true (cutP xs lo hi)) else none) K = _
  rw [WO_ite]
theorem cut_hi {xs : List PV} {i : Int} (h : 0 ≤ i) : cutP xs none (some i) = xs.take i.toNat := by
  obtain ⟨n, rfl⟩ := Int.eq_ofNat_of_zero_le h
  unfold cutP
  rw [HT.sIx_none, HT.sIx_nat]
  show (xs.drop 0).take (min n xs.length - 0) = xs.take n
  rw [List.drop_zero, Nat.sub_zero]
  exact (List.take_eq_take_min ..).symm
theorem cut_lo {xs : List PV} {i : Int} (h : 0 ≤ i) : cutP xs (some i) none = xs.drop i.toNat := by
  obtain ⟨n, rfl⟩ := Int.eq_ofNat_of_zero_le h
  unfold cutP
  rw [HT.sIx_none, HT.sIx_nat]
  show (xs.drop (min n xs.length)).take (xs.length - min n xs.length) = xs.drop n
  by_cases hn : n ≤ xs.length
  · rw [Nat.min_eq_left hn, List.take_of_length_le (by simp)]
  · rw [Nat.min_eq_right (by omega), List.drop_of_length_le (Nat.le_refl _), List.drop_of_length_le (by omega), List.take_nil]
theorem frees_sub {xs ys : List PV} (h : PV.frees xs = true) (s : ∀ y ∈ ys, y ∈ xs) : PV.frees ys = true := frees_mem.mpr fun y hy => frees_mem.mp h y (s y hy)
theorem frees_take {xs : List PV} {n : Nat} (h : PV.frees xs = true) : PV.frees (xs.take n) = true := frees_sub h fun _ => List.mem_of_mem_take
theorem frees_drop {xs : List PV} {n : Nat} (h : PV.frees xs = true) : PV.frees (xs.drop n) = true := frees_sub h fun _ => List.mem_of_mem_drop
theorem kd_ob : (Kd.own == Kd.bor) = false := rfl
theorem kd_ib : (Kd.io == Kd.bor) = false := rfl
theorem kd_bb : (Kd.bor == Kd.bor) = true := rfl
/-! ### what is walked -/
theorem WI_rng {K : List PV → Prop} : WO (rngIt1 [.int j]) K = ((-(2 ^ 62) ≤ j ∧ j < 2 ^ 62) ∧ K (rng 0 j.toNat)) := by
  show WO (if -(2 ^ 62) ≤ j ∧ j < 2 ^ 62 then some (rng 0 j.toNat) else none) K = _
  rw [WO_ite]
theorem WI_rng2 {K : List PV → Prop} : WO (rngIt2 [.int i, .int j]) K = ((-(2 ^ 62) ≤ i ∧ i < 2 ^ 62 ∧ -(2 ^ 62) ≤ j ∧ j < 2 ^ 62) ∧ K (rng i (j - i).toNat)) := by
  show WO (if -(2 ^ 62) ≤ i ∧ i < 2 ^ 62 ∧ -(2 ^ 62) ≤ j ∧ j < 2 ^ 62 then some (rng i (j - i).toNat) else none) K = _
  rw [WO_ite]
theorem frees_rng {lo : Int} {n : Nat} : PV.frees (rng lo n) = true := frees_map fun _ _ => rfl
theorem WI_seqT {K : List PV → Prop} : WO (seqIt [.tup xs]) K = K xs := rfl
theorem WI_seqL {K : List PV → Prop} : WO (seqIt [.lst o xs]) K = K xs := rfl
theorem WI_seqR {K : List PV → Prop} : WO (seqIt [.rol xs]) K = K xs := rfl
theorem WI_seqS {K : List PV → Prop} : WO (seqIt [.str x]) K = K (x.cps.toList.map fun c => .str ⟨#[c]⟩) := rfl
theorem WI_revL {K : List PV → Prop} : WO (revIt [.lst o xs]) K = K xs.reverse := rfl
theorem WI_enL {K : List PV → Prop} : WO (orI (enumIt listIt) (enumIt tupIt) [.lst o xs]) K = K (numb 0 xs) := rfl
theorem WI_enT {K : List PV → Prop} : WO (orI (enumIt listIt) (enumIt tupIt) [.tup xs]) K = K (numb 0 xs) := rfl
theorem WI_zpL {K : List PV → Prop} : WO (orI (zipIt listIt) (zipIt tupIt) [.lst o xs, .lst o' ys]) K = K (pairs xs ys) := rfl
theorem WI_zpT {K : List PV → Prop} : WO (orI (zipIt listIt) (zipIt tupIt) [.tup xs, .tup ys]) K = K (pairs xs ys) := rfl
theorem frees_numb {n : Nat} : PV.frees (numb n xs) = PV.frees xs := by
  induction xs generalizing n with
  | nil => rfl
  | cons a xs ih =>
    show ((PV.tup [.int n, a]).free && PV.frees (numb (n + 1) xs)) = (a.free && PV.frees xs)
    rw [ih]
    simp [PV.free, PV.frees]
theorem frees_signs {l : List Nat} : PV.frees (l.map fun c => PV.str ⟨#[c]⟩) = true := frees_map fun _ _ => rfl
/-! ### changes -/
section
variable {K : PV × PV → Prop} {a b : PV}
theorem WM_app : WO (fAppend (.lst true xs) [a]) K = (xs.length < CAP ∧ K (.lst true (xs ++ [a]), .non)) := by
  show WO (if xs.length < CAP then some (PV.lst true (xs ++ [a]), PV.non) else none) K = _
  rw [WO_ite]
theorem WM_ins : WO (fInsert (.lst true xs) [.int i, a]) K = ((xs.length < CAP ∧ 0 ≤ i ∧ i < 2 ^ 63) ∧ K (.lst true (xs.take i.toNat ++ [a] ++ xs.drop i.toNat), .non)) := by
  show WO (if xs.length < CAP ∧ 0 ≤ i ∧ i < 2 ^ 63 then some (PV.lst true (xs.take i.toNat ++ [a] ++ xs.drop i.toNat), PV.non) else none) K = _
  rw [WO_ite]
theorem WM_ext : WO (fExtend (.lst true xs) [.lst o ys]) K = (xs.length + ys.length ≤ CAP ∧ K (.lst true (xs ++ ys), .non)) := by
  show WO (if xs.length + ys.length ≤ CAP then some (PV.lst true (xs ++ ys), PV.non) else none) K = _
  rw [WO_ite]
theorem WM_set : WO (fSet (.lst true xs) [a, .int i]) K = WO (ixN xs.length i) fun j => K (.lst true (xs.set j a), .non) := by
  show WO (match ixN xs.length i with | some j => some (PV.lst true (xs.set j a), PV.non) | none => none) K = _
  cases ixN xs.length i <;> rfl
theorem WM_rev : WO (fReverse (.lst true xs) []) K = (PV.frees xs = true ∧ K (.lst true xs.reverse, .non)) := by
  show WO (if PV.frees xs then some (PV.lst true xs.reverse, PV.non) else none) K = _
  rw [WO_ite]
theorem WM_clr : WO (fClear (.lst true xs) []) K = K (.lst true [], .non) := rfl
theorem WM_set0 {b : PV} : WO (fSet (.lst true (b :: xs)) [a, .int 0]) K = K (.lst true (a :: xs), .non) := by
  rw [WM_set]
  have e : ixN (b :: xs).length 0 = some 0 := by
    unfold ixN
    rw [if_pos (by omega), if_pos (by simp only [List.length_cons]; omega)]; rfl
  rw [e]; rfl
theorem WM_set1 {b c : PV} : WO (fSet (.lst true (b :: c :: xs)) [a, .int 1]) K = K (.lst true (b :: a :: xs), .non) := by
  rw [WM_set]
  have e : ixN (b :: c :: xs).length 1 = some 1 := by
    unfold ixN
    rw [if_pos (by omega), if_pos (by simp only [List.length_cons]; omega)]; rfl
  rw [e]; rfl
theorem WM_set2 {b c d : PV} : WO (fSet (.lst true (b :: c :: d :: xs)) [a, .int 2]) K = K (.lst true (b :: c :: a :: xs), .non) := by
  rw [WM_set]
  have e : ixN (b :: c :: d :: xs).length 2 = some 2 := by
    unfold ixN
    rw [if_pos (by omega), if_pos (by simp only [List.length_cons]; omega)]; rfl
  rw [e]; rfl
theorem isLstO_T : isLstO (.lst true xs) = true := rfl
theorem mulC_eq : (mulC i j = true) = (i.natAbs < 2 ^ 64 ∨ j.natAbs < 2 ^ 64) := by
  unfold mulC
  rw [Bool.or_eq_true, decide_eq_true_eq, decide_eq_true_eq]
theorem ixN_pos {n : Nat} {i : Int} (h : 0 ≤ i) (h1 : i < n) : ixN n i = some i.toNat := by
  unfold ixN
  rw [if_pos h, if_pos h1]
end
end Ev

set_option Elab.async false
set_option linter.all false
set_option maxRecDepth 100000
set_option maxHeartbeats 2000000
/-! Data that may be looked at: texts, what repr tells. -/
namespace Ev
open PySem PySem.Spec PyProof.Rows L2 GxR Gx Gq
/-! ### short texts of plain signs -/
def Sh (n : Nat) (z : Str) : Prop := z.length ≤ n ∧ ∀ c ∈ z.cps.toList, c < 128
theorem Sh.le {n m : Nat} {z : Str} (h : Sh n z) (l : n ≤ m) : Sh m z := ⟨Nat.le_trans h.1 l, h.2⟩
theorem len_app (a b : Str) : (a ++ b).length = a.length + b.length := by
  show (a.cps ++ b.cps).size = _
  rw [Array.size_append]; rfl
theorem app_cps (a b : Str) : (a ++ b : Str).cps.toList = a.cps.toList ++ b.cps.toList := by
  show (a.cps ++ b.cps).toList = _
  rw [Array.toList_append]
theorem Sh.app {n m : Nat} {a b : Str} (h : Sh n a) (k : Sh m b) : Sh (n + m) (a ++ b) := by
  refine ⟨by rw [len_app]; exact Nat.add_le_add h.1 k.1, fun c hc => ?_⟩
  rw [app_cps] at hc
  rcases List.mem_append.mp hc with q | q
  · exact h.2 c q
  · exact k.2 c q
theorem Sh.cut {n : Nat} {z : Str} {lo hi : Option Int} (h : Sh n z) : Sh n (cutS z lo hi) := by
  refine ⟨Nat.le_trans (cutS_length ..) h.1, fun c hc => h.2 c ?_⟩
  have hc' : c ∈ (z.cps.toList.drop (HT.sIx z.length 0 lo)).take (HT.sIx z.length z.length hi - HT.sIx z.length 0 lo) := by simpa [cutS] using hc
  exact List.mem_of_mem_drop (List.mem_of_mem_take hc')
theorem Sh.sign {z : Str} {c : Nat} {n : Nat} (h : Sh n z) (m : c ∈ z.cps.toList) : Sh 1 ⟨#[c]⟩ := by
  refine ⟨Nat.le_refl _, fun d hd => ?_⟩
  have e : d = c := by simpa using hd
  rw [e]
  exact h.2 c m
/-! ### what repr, == tell of -/
structure Dat (n w : Nat) (x : PV) : Prop where
  ex : ∃ d, x.dat = some d ∧ d.canLay0 = true ∧ d.depth ≤ n ∧ d.weight ≤ w ∧ d.intsShort 13 = true ∧ d.showable = true
theorem strOk_sh {n : Nat} {z : Str} (h : Sh n z) : PyData.strOk z = true := by
  show z.cps.all (fun c => decide (c < 0x110000)) = true
  rw [← Array.all_toList]
  exact List.all_eq_true.mpr fun c hc => decide_eq_true (Nat.lt_trans (h.2 c hc) (by decide))
theorem Dat.str {n w m : Nat} {z : Str} (h : Sh m z) (l : m ≤ w) : Dat n w (.str z) := ⟨.str z, rfl, by simp only [PyData.canLay0]; exact strOk_sh h, by simp only [PyData.depth]; omega, by simp only [PyData.weight]; exact Nat.le_trans h.1 l, by simp only [PyData.intsShort], by simp only [PyData.showable]⟩
theorem Dat.non {n w : Nat} : Dat n w .non := ⟨.none, rfl, by simp only [PyData.canLay0], by simp only [PyData.depth]; omega, by simp only [PyData.weight]; omega, by simp only [PyData.intsShort], by simp only [PyData.showable]⟩
theorem Dat.bl {n w : Nat} {b : Bool} : Dat n w (.bl b) := ⟨.bool b, rfl, by simp only [PyData.canLay0], by simp only [PyData.depth]; omega, by simp only [PyData.weight]; omega, by simp only [PyData.intsShort], by simp only [PyData.showable]⟩
theorem dats_of {n w : Nat} : ∀ {xs : List PV}, (∀ x ∈ xs, Dat n w x) → ∃ ds, PV.dats xs = some ds ∧ PyData.canLayAll0 ds = true ∧ PyData.depthAll ds ≤ n ∧ PyData.weightAll ds ≤ (w + 1) * xs.length ∧ PyData.intsShortAll 13 ds = true ∧ PyData.showableAll ds = true
  | [], _ => ⟨[], rfl, by simp only [PyData.canLayAll0], by simp only [PyData.depthAll]; omega, by simp only [PyData.weightAll]; omega, by simp only [PyData.intsShortAll], by simp only [PyData.showableAll]⟩
  | x :: xs, h => by
    obtain ⟨d, e, s1, s2, s3, s4, s5⟩ := (h x List.mem_cons_self).ex
    obtain ⟨ds, h1, h2, h3, h4, h5, h6⟩ := dats_of (xs := xs) fun y hy => h y (List.mem_cons_of_mem _ hy)
    refine ⟨d :: ds, ?_, ?_, ?_, ?_, ?_, ?_⟩
    · unfold PV.dats
      rw [e, h1]
    · simp only [PyData.canLayAll0, s1, h2, Bool.and_self]
    · simp only [PyData.depthAll]
      exact Nat.max_le.mpr ⟨s2, h3⟩
    · simp only [PyData.weightAll, List.length_cons, Nat.mul_succ]
      omega
    · simp only [PyData.intsShortAll, s4, h5, Bool.and_self]
    · simp only [PyData.showableAll, s5, h6, Bool.and_self]
theorem Dat.tup {n w m v : Nat} {xs : List PV} (h : ∀ x ∈ xs, Dat n w x) (l : xs.length ≤ m) (l2 : (w + 1) * m ≤ v) : Dat (n + 1) v (.tup xs) := by
  obtain ⟨ds, h1, h2, h3, h4, h5, h6⟩ := dats_of h
  refine ⟨.tuple ds, ?_, ?_, ?_, ?_, ?_, ?_⟩
  · show (PV.dats xs).map PyData.tuple = _
    rw [h1]; rfl
  · simp only [PyData.canLay0, h2]
  · simp only [PyData.depth]; omega
  · simp only [PyData.weight]
    exact Nat.le_trans h4 (Nat.le_trans (Nat.mul_le_mul_left _ l) l2)
  · simp only [PyData.intsShort, h5]
  · simp only [PyData.showable, h6]
theorem Dat.lst {n w m v : Nat} {o : Bool} {xs : List PV} (h : ∀ x ∈ xs, Dat n w x) (l : xs.length ≤ m) (l2 : (w + 1) * m ≤ v) : Dat (n + 1) v (.lst o xs) := by
  obtain ⟨ds, h1, h2, h3, h4, h5, h6⟩ := dats_of h
  refine ⟨.list ds, ?_, ?_, ?_, ?_, ?_, ?_⟩
  · show (PV.dats xs).map PyData.list = _
    rw [h1]; rfl
  · simp only [PyData.canLay0, h2]
  · simp only [PyData.depth]; omega
  · simp only [PyData.weight]
    exact Nat.le_trans h4 (Nat.le_trans (Nat.mul_le_mul_left _ l) l2)
  · simp only [PyData.intsShort, h5]
  · simp only [PyData.showable, h6]
theorem Dat.le {n w n' w' : Nat} {x : PV} (h : Dat n w x) (l : n ≤ n') (l' : w ≤ w') : Dat n' w' x := by
  obtain ⟨d, e, s1, s2, s3, s4, s5⟩ := h.ex
  exact ⟨d, e, s1, by omega, by omega, s4, s5⟩
def Rp (x : PV) : Prop := ∃ z, reprP x = some (.str z)
theorem lay_of {d : PyData} (h1 : d.canLay0 = true) (h2 : d.depth ≤ 64) (h3 : d.weight ≤ 1048576) : d.layable0 = true := by
  show (d.canLay0 && decide (d.depth ≤ 64) && decide (d.weight ≤ 2 ^ 20)) = true
  rw [h1, decide_eq_true h2, decide_eq_true (Nat.le_trans h3 (by decide))] <;> rfl
theorem repr_dat {x : PV} {d : PyData} (hd : x.dat = some d) (h1 : d.showable = true) (h2 : d.hasDict = false) (h3 : d.depth ≤ 64) (h4 : d.shown.length ≤ CAP) (t : (∃ xs, x = .tup xs) ∨ (∃ o xs, x = .lst o xs) ∨ ∃ z, x = .str z) : Rp x := by
  rcases t with ⟨xs, rfl⟩ | ⟨o, xs, rfl⟩ | ⟨z, rfl⟩
  · refine ⟨d.shown, ?_⟩
    show (match (PV.tup xs).dat with | some d => if d.showable = true ∧ d.hasDict = false ∧ d.depth ≤ 64 ∧ d.shown.length ≤ CAP then some (PV.str d.shown) else none | none => none) = _
    rw [hd]
    exact if_pos ⟨h1, h2, h3, h4⟩
  · refine ⟨d.shown, ?_⟩
    show (match (PV.lst o xs).dat with | some d => if d.showable = true ∧ d.hasDict = false ∧ d.depth ≤ 64 ∧ d.shown.length ≤ CAP then some (PV.str d.shown) else none | none => none) = _
    rw [hd]
    exact if_pos ⟨h1, h2, h3, h4⟩
  · cases hd
    refine ⟨reprText z, if_pos ?_⟩
    simpa only [PyData.shown] using h4
theorem Dat.rp {n w : Nat} {x : PV} (h : Dat n w x) (l : n ≤ 64) (l' : w ≤ 1048576) (t : (∃ xs, x = .tup xs) ∨ (∃ o xs, x = .lst o xs) ∨ ∃ z, x = .str z) : Rp x := by
  obtain ⟨d, e, s1, s2, s3, s4, s5⟩ := h.ex
  have ly := lay_of s1 (Nat.le_trans s2 l) (Nat.le_trans s3 l')
  exact repr_dat e s5 (PyData.hasDict_of_layable ly) (Nat.le_trans s2 l) (Nat.le_trans (PyProof.Rows.shown_le13 ly s4) (by decide)) t
theorem rp_non : Rp .non := ⟨_, rfl⟩
/-! ### what may be looked at -/
mutual
def PV.sane : PV → Bool
  | .non => true
  | .bl _ => true
  | .int _ => true
  | .str z => decide (z.length ≤ 1000000)
  | .tup xs => PV.sanes xs && decide (xs.length ≤ 1000000)
  | .lst o xs => !o && (PV.sanes xs && decide (xs.length ≤ 1000000))
  | .dct o ks xs => !o && (PV.sanes xs && decide (xs.length ≤ 1000000))
  | .rol _ => false
  | .err _ => false
  | .dtt _ _ _ => false
def PV.sanes : List PV → Bool
  | [] => true
  | x :: xs => x.sane && PV.sanes xs
end
theorem sanes_all {xs : List PV} : PV.sanes xs = xs.all PV.sane := by
  induction xs with
  | nil => rfl
  | cons x xs ih => show (x.sane && PV.sanes xs) = _; rw [ih] <;> rfl
theorem sanes_mem {xs : List PV} : PV.sanes xs = true ↔ ∀ x ∈ xs, x.sane = true := by rw [sanes_all, List.all_eq_true]
theorem sane_tup {xs : List PV} : (PV.tup xs).sane = true ↔ (∀ x ∈ xs, x.sane = true) ∧ xs.length ≤ 1000000 := by
  show (PV.sanes xs && decide (xs.length ≤ 1000000)) = true ↔ _
  rw [Bool.and_eq_true, sanes_mem, decide_eq_true_eq]
theorem sane_lst {o : Bool} {xs : List PV} : (PV.lst o xs).sane = true ↔ o = false ∧ (∀ x ∈ xs, x.sane = true) ∧ xs.length ≤ 1000000 := by
  show (!o && (PV.sanes xs && decide (xs.length ≤ 1000000))) = true ↔ _
  rw [Bool.and_eq_true, Bool.and_eq_true, sanes_mem, decide_eq_true_eq]
  simp
theorem sane_str {z : Str} : (PV.str z).sane = true ↔ z.length ≤ 1000000 := by
  show decide _ = true ↔ _
  rw [decide_eq_true_eq]
mutual
theorem sane_free : ∀ {x : PV}, x.sane = true → x.free = true
  | .non, _ => rfl
  | .bl _, _ => rfl
  | .int _, _ => rfl
  | .str _, _ => rfl
  | .tup xs, h => sanes_free (xs := xs) (Bool.and_eq_true_iff.mp h).1
  | .lst o xs, h => by
    have h' : (!o && (PV.sanes xs && decide (xs.length ≤ 1000000))) = true := h
    rw [Bool.and_eq_true, Bool.and_eq_true] at h'
    show (!o && PV.frees xs) = true
    rw [h'.1, sanes_free h'.2.1] <;> rfl
  | .dct o ks xs, h => by
    have h' : (!o && (PV.sanes xs && decide (xs.length ≤ 1000000))) = true := h
    rw [Bool.and_eq_true, Bool.and_eq_true] at h'
    show (!o && PV.frees xs) = true
    rw [h'.1, sanes_free h'.2.1] <;> rfl
theorem sanes_free : ∀ {xs : List PV}, PV.sanes xs = true → PV.frees xs = true
  | [], _ => rfl
  | x :: xs, h => by
    have h' : (x.sane && PV.sanes xs) = true := h
    rw [Bool.and_eq_true] at h'
    show (x.free && PV.frees xs) = true
    rw [sane_free h'.1, sanes_free h'.2] <;> rfl
end
theorem sane_shape {x : PV} (h : x.sane = true) : x = .non ∨ (∃ b, x = .bl b) ∨ (∃ i, x = .int i) ∨ (∃ z, x = .str z ∧ z.length ≤ 1000000) ∨ (∃ xs, x = .tup xs ∧ (∀ y ∈ xs, y.sane = true) ∧ xs.length ≤ 1000000) ∨ (∃ xs, x = .lst false xs ∧ (∀ y ∈ xs, y.sane = true) ∧ xs.length ≤ 1000000) ∨ ∃ ks xs, x = .dct false ks xs := by
  cases x with
  | non => exact .inl rfl
  | bl b => exact .inr (.inl ⟨b, rfl⟩)
  | int i => exact .inr (.inr (.inl ⟨i, rfl⟩))
  | str z => exact .inr (.inr (.inr (.inl ⟨z, rfl, sane_str.mp h⟩)))
  | tup xs => exact .inr (.inr (.inr (.inr (.inl ⟨xs, rfl, sane_tup.mp h⟩))))
  | lst o xs =>
    obtain ⟨rfl, q⟩ := sane_lst.mp h
    exact .inr (.inr (.inr (.inr (.inr (.inl ⟨xs, rfl, q⟩)))))
  | dct o ks xs =>
    have h' : (!o && (PV.sanes xs && decide (xs.length ≤ 1000000))) = true := h
    rw [Bool.and_eq_true] at h'
    cases o with
    | false => exact .inr (.inr (.inr (.inr (.inr (.inr ⟨ks, xs, rfl⟩)))))
    | true => exact absurd h'.1 (by decide)
  | rol xs => exact absurd h Bool.false_ne_true
  | err c => exact absurd h Bool.false_ne_true
  | dtt o ks xs => exact absurd h Bool.false_ne_true
def isStrP : PV → Bool
  | .str _ => true
  | _ => false
def isTupleP : PV → Bool
  | .tup _ => true
  | _ => false
theorem isi_strX {x : PV} {K : PV → Prop} (h : x.sane = true) : WO (isiP "str" x) K = K (.bl (isStrP x)) := by
  cases x <;> first | rfl | exact absurd h Bool.false_ne_true
theorem isi_tupX {x : PV} {K : PV → Prop} (h : x.sane = true) : WO (isiP "tuple" x) K = K (.bl (isTupleP x)) := by
  cases x <;> first | rfl | exact absurd h Bool.false_ne_true
theorem sane_frz {x : PV} (h : x.sane = true) : x.frz = x := frz_free (sane_free h)
theorem sane_ty {x : PV} (h : x.sane = true) : ∃ t, tyP x = some t := by
  cases x <;> first | exact ⟨_, rfl⟩ | cases h
/-- a text of one sign: the sign -/
theorem str_all {xs : List PV} (h : xs.all isStrP = true) : ∃ zs : List Str, xs = zs.map .str := by
  induction xs with
  | nil => exact ⟨[], rfl⟩
  | cons x xs ih =>
    rw [List.all_cons, Bool.and_eq_true] at h
    obtain ⟨zs, rfl⟩ := ih h.2
    cases x with
    | str z => exact ⟨z :: zs, rfl⟩
    | _ => exact absurd h.1 Bool.false_ne_true
def cdP : PV → Nat
  | .str z => z.cps.getD 0 0
  | _ => 0
theorem cd1 {c : Nat} : cdP (.str ⟨#[c]⟩) = c := rfl
theorem all_sg {l : List Nat} {p : Nat → Bool} : ((l.map fun c => PV.str ⟨#[c]⟩).all fun x => p (cdP x)) = l.all p := by
  rw [List.all_map]
  rfl
/-! ### what lines, names are -/
def signB (c : Nat) : Bool := decide (32 ≤ c) && decide (c ≤ 126) && !(c == 37) && !(c == 92)
def tupWB (a b : Int) : PV → Bool
  | .tup xs => decide (a ≤ (xs.length : Int)) && decide ((xs.length : Int) ≤ b)
  | _ => false
def plainB : PV → Bool
  | .str z => z.cps.toList.all signB
  | _ => false
def textB (n : Int) : PV → Bool
  | .str z => z.cps.toList.all signB && decide ((z.length : Int) ≤ n)
  | _ => false
def linesB : PV → Bool
  | .tup xs => decide (xs.length ≤ 12) && xs.all (textB 60)
  | _ => false
theorem linesB_tup {xs : List PV} : linesB (.tup xs) = (decide (xs.length ≤ 12) && xs.all (textB 60)) := rfl
theorem cps_blank : (" " : Str).cps.toList = [32] := by decide +kernel
theorem cps_tilde : ("~" : Str).cps.toList = [126] := by decide +kernel
theorem one_lt {c d : Nat} : (⟨#[c]⟩ : Str).cps.toList < (⟨#[d]⟩ : Str).cps.toList ↔ c < d := by
  show [c] < [d] ↔ c < d
  rw [List.cons_lt_cons_iff]
  simp
/-! ### lists of truths, of numbers -/
theorem bls_map {α : Type} {l : List α} {p : α → Bool} : blsP (l.map fun x => PV.bl (p x)) = some (l.map p) := by
  induction l with
  | nil => rfl
  | cons a l ih =>
    show (match blsP (l.map fun x => PV.bl (p x)) with | some bs => some (p a :: bs) | none => none) = _
    rw [ih]; rfl
theorem WO_allL {α : Type} {o : Bool} {l : List α} {p : α → Bool} {K : PV → Prop} : WO (allLP (.lst o (l.map fun x => PV.bl (p x)))) K = K (.bl (l.all p)) := by
  show WO (match blsP (l.map fun x => PV.bl (p x)) with | some bs => some (PV.bl (bs.all id)) | none => none) K = _
  rw [bls_map]
  show K _ = K _
  rw [List.all_map]
  rfl
theorem WO_anyL {α : Type} {o : Bool} {l : List α} {p : α → Bool} {K : PV → Prop} : WO (anyLP (.lst o (l.map fun x => PV.bl (p x)))) K = K (.bl (l.any p)) := by
  show WO (match blsP (l.map fun x => PV.bl (p x)) with | some bs => some (PV.bl (bs.any id)) | none => none) K = _
  rw [bls_map]
  show K _ = K _
  rw [List.any_map]
  rfl
theorem eqv_nil {xs : List PyData} : PyData.eqv (.list xs) (.list []) = xs.isEmpty := by cases xs <;> rfl
/-- a list against the empty one -/
theorem WB_eqL0 {o o' : Bool} {xs : List PV} {n w : Nat} {KB : Bool → Prop} (h : ∀ x ∈ xs, Dat n w x) (l : n < 64) : WO (eqP (.lst o xs) (.lst o' [])) KB = KB xs.isEmpty := by
  obtain ⟨ds, h1, h2, h3, h4, h5, h6⟩ := dats_of h
  have e : eqP (.lst o xs) (.lst o' []) = some xs.isEmpty := by
    show (match (PV.lst o xs).dat, (PV.lst o' []).dat with | some d, some e => if SeqAt.shaped d && SeqAt.shaped e then some (PyData.eqv d e) else none | _, _ => none) = _
    rw [show (PV.lst o xs).dat = some (.list ds) from by show (PV.dats xs).map PyData.list = _; rw [h1]; rfl, show (PV.lst o' []).dat = some (.list []) from rfl]
    have s1 : SeqAt.shaped (.list ds) = true := by
      unfold SeqAt.shaped
      rw [show PyData.canLay0 (.list ds) = true by simp only [PyData.canLay0, h2], decide_eq_true (show PyData.depth (.list ds) ≤ 64 by simp only [PyData.depth]; omega)]
      rfl
    have s2 : SeqAt.shaped (.list []) = true := by decide +kernel
    simp only [s1, s2, Bool.and_self, if_true, eqv_nil]
    cases xs with
    | nil =>
      cases h1
      rfl
    | cons x xs =>
      unfold PV.dats at h1
      split at h1
      · cases h1; rfl
      · cases h1
  rw [e]; rfl
theorem Dat.int {n : Nat} {i : Int} (h : (PyData.int i).intsShort 13 = true) (k : i.natAbs.log2 < 1920) : Dat n 2000 (.int i) := ⟨.int i, rfl, by simp only [PyData.canLay0], by simp only [PyData.depth]; omega, by simp only [PyData.weight]; split <;> omega, h, by simp only [PyData.showable]; exact decide_eq_true k⟩
/-- texts of figures, short -/
theorem short_nat : ∀ c : Nat, c < 1000 → (PyData.int (c : Int)).intsShort 13 = true := by
  have h : ∀ c : Fin 1000, (PyData.int (c.val : Int)).intsShort 13 = true := by decide +kernel
  exact fun c hc => h ⟨c, hc⟩
theorem log_small {i : Int} (h : i.natAbs < 2 ^ 1000) : i.natAbs.log2 < 1920 := by
  by_cases h0 : i.natAbs = 0
  · rw [h0]; decide
  · have := (Nat.log2_lt h0).mpr h
    omega
theorem Dat.nat {n c : Nat} (h : c < 1000) : Dat n 2000 (.int (c : Int)) := Dat.int (short_nat c h) (log_small (by
  have e : (c : Int).natAbs = c := Int.natAbs_natCast c
  rw [e]
  exact Nat.lt_trans h (by decide +kernel)))
end Ev

set_option Elab.async false
set_option linter.all false
set_option maxRecDepth 100000
set_option maxHeartbeats 4000000
namespace K03
open PySem PySem.Spec PyProof.Rows L2 GxR Gx Gq Ev
def top (i : Nat) : Stmt := PySem.Challenge.pw_mastershow_k03_what_are_lines.main.body.getD i (.Pass ⟨0, 0, 0, 0⟩)
abbrev FnP (K : PySem.W.Frag) (x : Str) (st : Stmt) (f : Addr) (fd : FuncData) : Prop := FunD K x x (defArgs st) (defBody st) (defScope st) [] [] f fd
def g_BARRED_CODES : PV := (.tup [(.int 37), (.int 92)])
def g_LONGEST_LINE : PV := (.int 60)
def g_MOST_LINES : PV := (.int 12)
def tb_is_plain (K : PySem.W.Frag) : Addr := (He.cT K (("is_plain" : Str), none)).2
def tb_is_lines (K : PySem.W.Frag) : Addr := (He.cT K (("is_lines" : Str), none)).2
def TBs (K : PySem.W.Frag) : List Addr := [tb_is_plain K, tb_is_lines K]
structure Tx (K : PySem.W.Frag) (w : World) (mg : Str → Option Value) : Prop where
  m_all : mg ("all" : Str) = none
  m_bool : mg ("bool" : Str) = none
  m_int : mg ("int" : Str) = none
  m_isinstance : mg ("isinstance" : Str) = none
  m_len : mg ("len" : Str) = none
  m_list : mg ("list" : Str) = none
  m_max : mg ("max" : Str) = none
  m_ord : mg ("ord" : Str) = none
  m_range : mg ("range" : Str) = none
  m_repr : mg ("repr" : Str) = none
  m_str : mg ("str" : Str) = none
  m_tuple : mg ("tuple" : Str) = none
  g_BARRED_CODES : GlP K mg ("BARRED_CODES" : Str) g_BARRED_CODES
  g_LONGEST_LINE : GlP K mg ("LONGEST_LINE" : Str) g_LONGEST_LINE
  g_MOST_LINES : GlP K mg ("MOST_LINES" : Str) g_MOST_LINES
section
variable {P : Program} {w : World} {K : PySem.W.Frag} {mg : Str → Option Value} {base : Heap}
def m__law_pen : SM :=
  (sRet (eLst [(eFrz (eOp (f1 listP) [(.m (eOp slFhi [(.v 0), (.m (eInt (eC (.int 63))))]))])), (eC (.int 0)), (eC (.int 0))]))
def d__law_pen : List PV → DOut := runD 1 [false] m__law_pen
abbrev slaw_pen : Stmt := top 12
theorem sclaw_pen : FnScope [("script" : Str)] [("script" : Str)] (defScope slaw_pen) := ⟨rfl, rfl, rfl, by decide +kernel, rfl, by decide +kernel, by decide +kernel⟩
theorem ok_law_pen {fd : FuncData} (F : FnP K ("_law_pen" : Str) slaw_pen (He.fAd K (("_law_pen" : Str), none)) fd) (T : Tx K w mg)  : FnOk P w K mg base (L2.CX P w) 1 (He.fAd K (("_law_pen" : Str), none)) fd [("script" : Str)] (spD K (TBs K) mg [false] (runD 1 [false] (m__law_pen))) := by
  refine okD (N := [("script" : Str)]) (m := m__law_pen) F sclaw_pen rfl fun X W hPr hw hK hmg hb hN hcalm hsc hfn hcode hst hfr hr tk hp => ?_
  subst hPr hw hK hmg hb
  exact (ss_one (ss_ret (se_lst (sv_cons (se_frz (se_callTy call_list_of ok_list (gls hsc rfl) T.m_list (by decide +kernel) (sa_cons (so_m (se_slhi rfl (so_v (nix hN rfl) (vis hsc rfl)) se_int)) sa_nil))) (sv_cons se_int (sv_cons se_int sv_nil))) (by rw [sizeLine_eq]; exact Nat.le_of_ble_eq_true rfl))))
def m__law_draw : SM :=
  (sSeq (sIf (cOf (eOp (f2 gtI) [(.m (eOp (f2 itemQ) [(.v 0), (.m (eC (.int 2)))])), (.m (eC (.int 0)))])) (sSeq (sAsg 2 (eOp (f2 modI) [(.m (eOp (f2 itemQ) [(.v 0), (.m (eC (.int 2)))])), (.v 1)]))
  (sSeq (sExpr (eMut 0 isLstO fSet [(eOp (f2 divI) [(.m (eOp (f2 itemQ) [(.v 0), (.m (eC (.int 2)))])), (.v 1)]), (eC (.int 2))]))
  (sRetV 2))) sSkip)
  (sSeq (sAsg 3 (eOp (f2 itemQ) [(.v 0), (.m (eC (.int 1)))]))
  (sSeq (sExpr (eMut 0 isLstO fSet [(eOp (f2 addP) [(.v 3), (.m (eC (.int 1)))]), (eC (.int 1))]))
  (sSeq (sAsg 4 (eC (.int 7)))
  (sSeq (sIf (cOf (eOp (f2 gtI) [(.m (eOp (f1 lenP) [(.m (eOp (f2 itemQ) [(.v 0), (.m (eC (.int 0)))]))])), (.m (eC (.int 0)))])) (sAsg 4 (eOp (f2 itemQ) [(.m (eOp (f2 itemQ) [(.v 0), (.m (eC (.int 0)))])), (.m (eOp (f2 modI) [(.v 3), (.m (eOp (f1 lenP) [(.m (eOp (f2 itemQ) [(.v 0), (.m (eC (.int 0)))]))]))]))])) sSkip)
  (sSeq (sIf (cAnd (cOf (eOp (f2 ltI) [(.v 3), (.m (eOp (f1 lenP) [(.m (eOp (f2 itemQ) [(.v 0), (.m (eC (.int 0)))]))]))])) (cOf (eOp (f2 geI) [(.v 4), (.m (eOp (f2 powI) [(.m (eC (.int 10))), (.m (eC (.int 18)))]))]))) (sSeq (sExpr (eMut 0 isLstO fSet [(eOp (f2 divI) [(.v 4), (.v 1)]), (eC (.int 2))]))
  (sRet (eOp (f2 modI) [(.v 4), (.v 1)]))) sSkip)
  (sSeq (sAsg 5 (eOp (f2 modI) [(.m (eOp (f2 mulP) [(.m (eOp (f2 addP) [(.m (eOp (f2 modI) [(.v 4), (.m (eC (.int 2147483629)))])), (.m (eC (.int 11)))])), (.m (eOp (f2 addP) [(.m (eOp (f2 addP) [(.m (eOp (f2 mulP) [(.v 3), (.v 3)])), (.m (eOp (f2 mulP) [(.m (eC (.int 5))), (.v 3)]))])), (.m (eC (.int 3)))]))])), (.m (eC (.int 2147483647)))]))
  (sRet (eOp (f2 modI) [(.m (eOp (f2 divI) [(.m (eOp (f2 modI) [(.m (eOp (f2 mulP) [(.m (eOp (f2 modI) [(.m (eOp (f2 addP) [(.m (eOp (f2 powI) [(.v 5), (.m (eC (.int 3)))])), (.m (eOp (f2 mulP) [(.m (eC (.int 69621))), (.v 3)]))])), (.m (eC (.int 2147483587)))])), (.m (eC (.int 40692)))])), (.m (eC (.int 2147483399)))])), (.m (eC (.int 64)))])), (.v 1)])))))))))
def d__law_draw : List PV → DOut := runD 6 [true, false] m__law_draw
abbrev slaw_draw : Stmt := top 13
theorem sclaw_draw : FnScope [("pen" : Str), ("many" : Str), ("found" : Str), ("at" : Str), ("cell" : Str), ("number" : Str)] [("pen" : Str), ("many" : Str)] (defScope slaw_draw) := ⟨rfl, rfl, rfl, by decide +kernel, rfl, by decide +kernel, by decide +kernel⟩
theorem ok_law_draw {fd : FuncData} (F : FnP K ("_law_draw" : Str) slaw_draw (He.fAd K (("_law_draw" : Str), none)) fd) (T : Tx K w mg)  : FnOk P w K mg base (L2.CX P w) 1 (He.fAd K (("_law_draw" : Str), none)) fd [("pen" : Str), ("many" : Str)] (spD K (TBs K) mg [true, false] (runD 6 [true, false] (m__law_draw))) := by
  refine okD (N := [("pen" : Str), ("many" : Str), ("found" : Str), ("at" : Str), ("cell" : Str), ("number" : Str)]) (m := m__law_draw) F sclaw_draw rfl fun X W hPr hw hK hmg hb hN hcalm hsc hfn hcode hst hfr hr tk hp => ?_
  subst hPr hw hK hmg hb
  exact (ss_cons (ss_if (st_cmp op_gt ok_gtI (so_m (se_ixQ rfl (hu64 hr) (so_v (nix hN rfl) (vis hsc rfl)) (so_m se_int) (fun _ _ => rfl) (fun _ _ => rfl))) (so_m se_int) (nomark _)) (ss_cons (ss_set (nnd hN (by decide)) (nix hN rfl) (loc hsc rfl) (se_bin op_mod ok_modI (so_m (se_ixQ rfl (hu64 hr) (so_v (nix hN rfl) (vis hsc rfl)) (so_m se_int) (fun _ _ => rfl) (fun _ _ => rfl))) (so_v (nix hN rfl) (vis hsc rfl))) (by rfl) (.inl (hfn _)))
    (ss_cons (ss_setIx (nix hN rfl) (vis hsc rfl) (se_bin op_fdiv ok_divI (so_m (se_ixQ rfl (hu64 hr) (so_v (nix hN rfl) (vis hsc rfl)) (so_m se_int) (fun _ _ => rfl) (fun _ _ => rfl))) (so_v (nix hN rfl) (vis hsc rfl))) se_int)
    (ss_one (ss_retV (nix hN rfl) (vis hsc rfl))))) ss_nil)
    (ss_cons (ss_set (nnd hN (by decide)) (nix hN rfl) (loc hsc rfl) (se_ixQ rfl (hu64 hr) (so_v (nix hN rfl) (vis hsc rfl)) (so_m se_int) (fun _ _ => rfl) (fun _ _ => rfl)) (by rfl) (.inl (hfn _)))
    (ss_cons (ss_setIx (nix hN rfl) (vis hsc rfl) (se_bin op_addP ok_addP (so_v (nix hN rfl) (vis hsc rfl)) (so_m se_int)) se_int)
    (ss_cons (ss_set (nnd hN (by decide)) (nix hN rfl) (loc hsc rfl) se_int (by rfl) (.inl (hfn _)))
    (ss_cons (ss_if (st_cmp op_gt ok_gtI (so_m (se_callB call_lenP ok_len.ok (gls hsc rfl) T.m_len (by decide +kernel) (sa_cons (so_m (se_ixQ rfl (hu64 hr) (so_v (nix hN rfl) (vis hsc rfl)) (so_m se_int) (fun _ _ => rfl) (fun _ _ => rfl))) sa_nil))) (so_m se_int) (nomark _)) (ss_one (ss_set (nnd hN (by decide)) (nix hN rfl) (loc hsc rfl) (se_ixQ rfl (hu64 hr) (so_m (se_ixQ rfl (hu64 hr) (so_v (nix hN rfl) (vis hsc rfl)) (so_m se_int) (fun _ _ => rfl) (fun _ _ => rfl))) (so_m (se_bin op_mod ok_modI (so_v (nix hN rfl) (vis hsc rfl)) (so_m (se_callB call_lenP ok_len.ok (gls hsc rfl) T.m_len (by decide +kernel) (sa_cons (so_m (se_ixQ rfl (hu64 hr) (so_v (nix hN rfl) (vis hsc rfl)) (so_m se_int) (fun _ _ => rfl) (fun _ _ => rfl))) sa_nil))))) (fun _ _ => rfl) (fun _ _ => rfl)) (by rfl) (.inl (hfn _)))) ss_nil)
    (ss_cons (ss_if (PW.pt (st_and (st_cmp op_lt ok_ltI (so_v (nix hN rfl) (vis hsc rfl)) (so_m (se_callB call_lenP ok_len.ok (gls hsc rfl) T.m_len (by decide +kernel) (sa_cons (so_m (se_ixQ rfl (hu64 hr) (so_v (nix hN rfl) (vis hsc rfl)) (so_m se_int) (fun _ _ => rfl) (fun _ _ => rfl))) sa_nil))) (nomark _)) (st_and1 (st_cmp op_ge ok_geI (so_v (nix hN rfl) (vis hsc rfl)) (so_m (se_bin op_pow ok_powI (so_m se_int) (so_m se_int))) (nomark _))))) (ss_cons (ss_setIx (nix hN rfl) (vis hsc rfl) (se_bin op_fdiv ok_divI (so_v (nix hN rfl) (vis hsc rfl)) (so_v (nix hN rfl) (vis hsc rfl))) se_int)
    (ss_one (ss_ret (se_bin op_mod ok_modI (so_v (nix hN rfl) (vis hsc rfl)) (so_v (nix hN rfl) (vis hsc rfl)))))) ss_nil)
    (ss_cons (ss_set (nnd hN (by decide)) (nix hN rfl) (loc hsc rfl) (se_bin op_mod ok_modI (so_m (se_bin op_mulP ok_mulP (so_m (se_bin op_addP ok_addP (so_m (se_bin op_mod ok_modI (so_v (nix hN rfl) (vis hsc rfl)) (so_m se_int))) (so_m se_int))) (so_m (se_bin op_addP ok_addP (so_m (se_bin op_addP ok_addP (so_m (se_bin op_mulP ok_mulP (so_v (nix hN rfl) (vis hsc rfl)) (so_v (nix hN rfl) (vis hsc rfl)))) (so_m (se_bin op_mulP ok_mulP (so_m se_int) (so_v (nix hN rfl) (vis hsc rfl)))))) (so_m se_int))))) (so_m se_int)) (by rfl) (.inl (hfn _)))
    (ss_one (ss_ret (se_bin op_mod ok_modI (so_m (se_bin op_fdiv ok_divI (so_m (se_bin op_mod ok_modI (so_m (se_bin op_mulP ok_mulP (so_m (se_bin op_mod ok_modI (so_m (se_bin op_addP ok_addP (so_m (se_bin op_pow ok_powI (so_v (nix hN rfl) (vis hsc rfl)) (so_m se_int))) (so_m (se_bin op_mulP ok_mulP (so_m se_int) (so_v (nix hN rfl) (vis hsc rfl)))))) (so_m se_int))) (so_m se_int))) (so_m se_int))) (so_m se_int))) (so_v (nix hN rfl) (vis hsc rfl))))))))))))
def m__law_line : SM :=
  (sSeq (sAsg 1 (eC (.str " !\"#$&'()*+,-./0123456789:;<=>?@ABCDEFGHIJKLMNOPQRSTUVWXYZ[]^_`abcdefghijklmnopqrstuvwxyz{|}~")))
  (sSeq (sAsg 2 (eOp (f2 itemQ) [(.v 1), (.m (eCall [true, false] d__law_draw [(.v 0), (.m (eOp (f1 lenP) [(.v 1)]))]))]))
  (sSeq (sAsg 3 (eOp (f2 itemQ) [(.m (eLst [(eC (.int 0)), (eC (.int 1)), (eC (.int 59)), (eC (.int 60)), (eC (.int 60)), (eC (.int 61))])), (.m (eCall [true, false] d__law_draw [(.v 0), (.m (eC (.int 6)))]))]))
  (sSeq (sAsg 4 (eCall [true, false] d__law_draw [(.v 0), (.m (eOp (f2 addP) [(.v 3), (.m (eC (.int 1)))]))]))
  (sRet (eOp (f2 addP) [(.m (eOp (f2 addP) [(.m (eOp slFhi [(.m (eOp (f2 mulP) [(.m (eC (.str "word and "))), (.m (eC (.int 9)))])), (.m (eInt (eVar 4)))])), (.m (eOp (f2 mulP) [(.v 2), (.m (eOp (f1 intP) [(.m (eOp (f2 gtI) [(.v 3), (.m (eC (.int 0)))]))]))]))])), (.m (eOp slFhi [(.m (eOp (f2 mulP) [(.m (eC (.str "more {n} "))), (.m (eC (.int 9)))])), (.m (eInt (eOp (f2 max2P) [(.m (eOp (f2 subI) [(.m (eOp (f2 subI) [(.v 3), (.v 4)])), (.m (eC (.int 1)))])), (.m (eC (.int 0)))])))]))]))))))
def d__law_line : List PV → DOut := runD 5 [true] m__law_line
abbrev slaw_line : Stmt := top 15
theorem sclaw_line : FnScope [("pen" : Str), ("signs" : Str), ("sign" : Str), ("far" : Str), ("at" : Str)] [("pen" : Str)] (defScope slaw_line) := ⟨rfl, rfl, rfl, by decide +kernel, rfl, by decide +kernel, by decide +kernel⟩
theorem ok_law_line {fd : FuncData} (F : FnP K ("_law_line" : Str) slaw_line (He.fAd K (("_law_line" : Str), none)) fd) (T : Tx K w mg) (D_law_draw : Gc.DnS P w K mg base 1 ("_law_draw" : Str) [("pen" : Str), ("many" : Str)] (spD K (TBs K) mg [true, false] (d__law_draw))) : FnOk P w K mg base (L2.CX P w) 2 (He.fAd K (("_law_line" : Str), none)) fd [("pen" : Str)] (spD K (TBs K) mg [true] (runD 5 [true] (m__law_line))) := by
  refine okD (N := [("pen" : Str), ("signs" : Str), ("sign" : Str), ("far" : Str), ("at" : Str)]) (m := m__law_line) F sclaw_line rfl fun X W hPr hw hK hmg hb hN hcalm hsc hfn hcode hst hfr hr tk hp => ?_
  subst hPr hw hK hmg hb
  exact (ss_cons (ss_set (nnd hN (by decide)) (nix hN rfl) (loc hsc rfl) se_str (by rfl) (.inl (hfn _)))
    (ss_cons (ss_set (nnd hN (by decide)) (nix hN rfl) (loc hsc rfl) (se_ixQ rfl (hu64 hr) (so_v (nix hN rfl) (vis hsc rfl)) (so_m (se_call D_law_draw rfl rfl (hr.mono (by decide)) (gls hsc rfl) tk (sa_cons (so_v (nix hN rfl) (vis hsc rfl)) (sa_cons (so_m (se_callB call_lenP ok_len.ok (gls hsc rfl) T.m_len (by decide +kernel) (sa_cons (so_v (nix hN rfl) (vis hsc rfl)) sa_nil))) sa_nil)))) (fun _ _ => rfl) (fun _ _ => rfl)) (by rfl) (.inl (hfn _)))
    (ss_cons (ss_set (nnd hN (by decide)) (nix hN rfl) (loc hsc rfl) (se_ixQ rfl (hu64 hr) (so_m (se_lst (sv_cons se_int (sv_cons se_int (sv_cons se_int (sv_cons se_int (sv_cons se_int (sv_cons se_int sv_nil)))))) (by rw [sizeLine_eq]; exact Nat.le_of_ble_eq_true rfl))) (so_m (se_call D_law_draw rfl rfl (hr.mono (by decide)) (gls hsc rfl) tk (sa_cons (so_v (nix hN rfl) (vis hsc rfl)) (sa_cons (so_m se_int) sa_nil)))) (fun _ _ => rfl) (fun _ _ => rfl)) (by rfl) (.inl (hfn _)))
    (ss_cons (ss_set (nnd hN (by decide)) (nix hN rfl) (loc hsc rfl) (se_call D_law_draw rfl rfl (hr.mono (by decide)) (gls hsc rfl) tk (sa_cons (so_v (nix hN rfl) (vis hsc rfl)) (sa_cons (so_m (se_bin op_addP ok_addP (so_v (nix hN rfl) (vis hsc rfl)) (so_m se_int))) sa_nil))) (by rfl) (.inl (hfn _)))
    (ss_one (ss_ret (se_bin op_addP ok_addP (so_m (se_bin op_addP ok_addP (so_m (se_slhi rfl (so_m (se_bin op_mulP ok_mulP (so_m se_str) (so_m se_int))) (se_var (nix hN rfl) (vis hsc rfl)))) (so_m (se_bin op_mulP ok_mulP (so_v (nix hN rfl) (vis hsc rfl)) (so_m (se_callTy call_int1 ok_int (gls hsc rfl) T.m_int (by decide +kernel) (sa_cons (so_m (se_cmp op_gt ok_gtI (so_v (nix hN rfl) (vis hsc rfl)) (so_m se_int) (nomark _))) sa_nil))))))) (so_m (se_slhi rfl (so_m (se_bin op_mulP ok_mulP (so_m se_str) (so_m se_int))) (se_callB (call_max2 hcalm) ok_max2 (gls hsc rfl) T.m_max (by decide +kernel) (sa_cons (so_m (se_bin op_sub ok_subI (so_m (se_bin op_sub ok_subI (so_v (nix hN rfl) (vis hsc rfl)) (so_v (nix hN rfl) (vis hsc rfl)))) (so_m se_int))) (sa_cons (so_m se_int) sa_nil))))))))))))
def m__law_thing : SM :=
  (sSeq (sAsg 1 (eOp (f1 tupleP) [(.m (eLc (mSrc rngIt1 [(.m (eOp (f2 itemQ) [(.m (eLst [(eCall [true, false] d__law_draw [(.v 0), (.m (eC (.int 4)))]), (eC (.int 12)), (eC (.int 13))])), (.m (eCall [true, false] d__law_draw [(.v 0), (.m (eC (.int 3)))]))]))]) [6] (gN 6) cTrue (eCall [true] d__law_line [(.v 0)])))]))
  (sSeq (sIf (cOf (eOp (f2 (lift2 eqP id)) [(.m (eOp (f1 lenP) [(.v 1)])), (.m (eC (.int 0)))])) (sRet (eOp (f2 itemQ) [(.m (eLst [(eVar 1), (eLst []), (eC .non), (eC (.str "")), (eTup [(eC (.str ""))])])), (.m (eCall [true, false] d__law_draw [(.v 0), (.m (eC (.int 5)))]))])) sSkip)
  (sSeq (sAsg 2 (eCall [true, false] d__law_draw [(.v 0), (.m (eOp (f1 lenP) [(.v 1)]))]))
  (sSeq (sAsg 3 (eOp (f2 itemQ) [(.m (eC (.str "\n\x09\\"))), (.m (eCall [true, false] d__law_draw [(.v 0), (.m (eC (.int 3)))]))]))
  (sSeq (sAsg 4 (eFrz (eLst [(eOp (f2 addP) [(.m (eOp (f2 addP) [(.m (eOp slFhi [(.m (eOp (f2 itemQ) [(.v 1), (.v 2)])), (.m (eInt (eC (.int 30))))])), (.v 3)])), (.m (eOp slFlo [(.m (eOp (f2 itemQ) [(.v 1), (.v 2)])), (.m (eInt (eC (.int 30))))]))]), (eC .non), (eC (.int 5)), (eC (.bl true)), (eLst [(eOp (f2 itemQ) [(.v 1), (.v 2)])]), (eTup [(eOp (f2 itemQ) [(.v 1), (.v 2)])]), (eOp (f2 addP) [(.m (eOp (f2 itemQ) [(.v 1), (.v 2)])), (.m (eC (.str "~")))])])))
  (sSeq (sAsg 5 (eOp (f2 addP) [(.m (eOp (f2 addP) [(.m (eOp slFhi [(.v 1), (.m (eInt (eVar 2)))])), (.m (eTup [(eOp (f2 itemQ) [(.v 4), (.m (eCall [true, false] d__law_draw [(.v 0), (.m (eC (.int 7)))]))])]))])), (.m (eOp slFlo [(.v 1), (.m (eInt (eOp (f2 addP) [(.v 2), (.m (eC (.int 1)))])))]))]))
  (sRet (eOp (f2 itemQ) [(.m (eLst [(eVar 1), (eVar 1), (eVar 5), (eVar 5), (eOp (f1 listP) [(.v 1)]), (eOp (f2 itemQ) [(.v 1), (.v 2)]), (eOp (f2 addP) [(.v 1), (.m (eTup [(eC (.str ""))]))])])), (.m (eCall [true, false] d__law_draw [(.v 0), (.m (eC (.int 7)))]))]))))))))
def d__law_thing : List PV → DOut := runD 7 [true] m__law_thing
abbrev slaw_thing : Stmt := top 16
theorem sclaw_thing : FnScope [("pen" : Str), ("good" : Str), ("at" : Str), ("sign" : Str), ("odd" : Str), ("bent" : Str), ("k" : Str)] [("pen" : Str)] (defScope slaw_thing) := ⟨rfl, rfl, rfl, by decide +kernel, rfl, by decide +kernel, by decide +kernel⟩
theorem ok_law_thing {fd : FuncData} (F : FnP K ("_law_thing" : Str) slaw_thing (He.fAd K (("_law_thing" : Str), none)) fd) (T : Tx K w mg) (D_law_draw : Gc.DnS P w K mg base 1 ("_law_draw" : Str) [("pen" : Str), ("many" : Str)] (spD K (TBs K) mg [true, false] (d__law_draw))) (D_law_line : Gc.DnS P w K mg base 2 ("_law_line" : Str) [("pen" : Str)] (spD K (TBs K) mg [true] (d__law_line))) : FnOk P w K mg base (L2.CX P w) 3 (He.fAd K (("_law_thing" : Str), none)) fd [("pen" : Str)] (spD K (TBs K) mg [true] (runD 7 [true] (m__law_thing))) := by
  refine okD (N := [("pen" : Str), ("good" : Str), ("at" : Str), ("sign" : Str), ("odd" : Str), ("bent" : Str), ("k" : Str)]) (m := m__law_thing) F sclaw_thing rfl fun X W hPr hw hK hmg hb hN hcalm hsc hfn hcode hst hfr hr tk hp => ?_
  subst hPr hw hK hmg hb
  exact (ss_cons (ss_set (nnd hN (by decide)) (nix hN rfl) (loc hsc rfl) (se_callTy call_tuple_of ok_tuple (gls hsc rfl) T.m_tuple (by decide +kernel) (sa_cons (so_m (se_lc (W' := fun _ _ _ _ => False) hcalm (nnd hN (by decide)) (si_range1 (gls hsc rfl) T.m_range (sa_cons (so_m (se_ixQ rfl (hu64 hr) (so_m (se_lst (sv_cons (se_call D_law_draw rfl rfl (hr.mono (by decide)) (gls hsc rfl) tk (sa_cons (so_v (nix hN rfl) (vis hsc rfl)) (sa_cons (so_m se_int) sa_nil))) (sv_cons se_int (sv_cons se_int sv_nil))) (by rw [sizeLine_eq]; exact Nat.le_of_ble_eq_true rfl))) (so_m (se_call D_law_draw rfl rfl (hr.mono (by decide)) (gls hsc rfl) tk (sa_cons (so_v (nix hN rfl) (vis hsc rfl)) (sa_cons (so_m se_int) sa_nil)))) (fun _ _ => rfl) (fun _ _ => rfl))) sa_nil)) (bok (own := [(("k" : Str), 6)]) hN hsc (by decide +kernel)) okG_name (by decide) (fun _ _ _ h => yes_of h) (fun _ _ _ _ _ => (pg_name (nnd hN (by decide)) (nix hN rfl) (locR rfl rfl) (by first | exact .inl rfl | exact .inr rfl | exact .inl (hfn _)))) (fun _ _ _ _ _ => pts_nil) (fun _ _ _ _ _ => (se_call D_law_line rfl rfl (hr.mono (by decide)) (glR rfl rfl) LamX.takes0 (sa_cons (so_v (nix hN rfl) (visR rfl rfl)) sa_nil))))) sa_nil)) (by rfl) (.inl (hfn _)))
    (ss_cons (ss_if (st_cmp (op_eqP (hu64 hr)) ok_eqP (so_m (se_callB call_lenP ok_len.ok (gls hsc rfl) T.m_len (by decide +kernel) (sa_cons (so_v (nix hN rfl) (vis hsc rfl)) sa_nil))) (so_m se_int) (nomark _)) (ss_one (ss_ret (se_ixQ rfl (hu64 hr) (so_m (se_lst (sv_cons (se_var (nix hN rfl) (vis hsc rfl)) (sv_cons (se_lst sv_nil (by rw [sizeLine_eq]; exact Nat.le_of_ble_eq_true rfl)) (sv_cons se_non (sv_cons se_str (sv_cons (se_tup (sv_cons se_str sv_nil) (by rw [sizeLine_eq]; exact Nat.le_of_ble_eq_true rfl)) sv_nil))))) (by rw [sizeLine_eq]; exact Nat.le_of_ble_eq_true rfl))) (so_m (se_call D_law_draw rfl rfl (hr.mono (by decide)) (gls hsc rfl) tk (sa_cons (so_v (nix hN rfl) (vis hsc rfl)) (sa_cons (so_m se_int) sa_nil)))) (fun _ _ => rfl) (fun _ _ => rfl)))) ss_nil)
    (ss_cons (ss_set (nnd hN (by decide)) (nix hN rfl) (loc hsc rfl) (se_call D_law_draw rfl rfl (hr.mono (by decide)) (gls hsc rfl) tk (sa_cons (so_v (nix hN rfl) (vis hsc rfl)) (sa_cons (so_m (se_callB call_lenP ok_len.ok (gls hsc rfl) T.m_len (by decide +kernel) (sa_cons (so_v (nix hN rfl) (vis hsc rfl)) sa_nil))) sa_nil))) (by rfl) (.inl (hfn _)))
    (ss_cons (ss_set (nnd hN (by decide)) (nix hN rfl) (loc hsc rfl) (se_ixQ rfl (hu64 hr) (so_m se_str) (so_m (se_call D_law_draw rfl rfl (hr.mono (by decide)) (gls hsc rfl) tk (sa_cons (so_v (nix hN rfl) (vis hsc rfl)) (sa_cons (so_m se_int) sa_nil)))) (fun _ _ => rfl) (fun _ _ => rfl)) (by rfl) (.inl (hfn _)))
    (ss_cons (ss_set (nnd hN (by decide)) (nix hN rfl) (loc hsc rfl) (se_frz (se_lst (sv_cons (se_bin op_addP ok_addP (so_m (se_bin op_addP ok_addP (so_m (se_slhi rfl (so_m (se_ixQ rfl (hu64 hr) (so_v (nix hN rfl) (vis hsc rfl)) (so_v (nix hN rfl) (vis hsc rfl)) (fun _ _ => rfl) (fun _ _ => rfl))) se_int)) (so_v (nix hN rfl) (vis hsc rfl)))) (so_m (se_sllo rfl (so_m (se_ixQ rfl (hu64 hr) (so_v (nix hN rfl) (vis hsc rfl)) (so_v (nix hN rfl) (vis hsc rfl)) (fun _ _ => rfl) (fun _ _ => rfl))) se_int))) (sv_cons se_non (sv_cons se_int (sv_cons se_bl (sv_cons (se_lst (sv_cons (se_ixQ rfl (hu64 hr) (so_v (nix hN rfl) (vis hsc rfl)) (so_v (nix hN rfl) (vis hsc rfl)) (fun _ _ => rfl) (fun _ _ => rfl)) sv_nil) (by rw [sizeLine_eq]; exact Nat.le_of_ble_eq_true rfl)) (sv_cons (se_tup (sv_cons (se_ixQ rfl (hu64 hr) (so_v (nix hN rfl) (vis hsc rfl)) (so_v (nix hN rfl) (vis hsc rfl)) (fun _ _ => rfl) (fun _ _ => rfl)) sv_nil) (by rw [sizeLine_eq]; exact Nat.le_of_ble_eq_true rfl)) (sv_cons (se_bin op_addP ok_addP (so_m (se_ixQ rfl (hu64 hr) (so_v (nix hN rfl) (vis hsc rfl)) (so_v (nix hN rfl) (vis hsc rfl)) (fun _ _ => rfl) (fun _ _ => rfl))) (so_m se_str)) sv_nil))))))) (by rw [sizeLine_eq]; exact Nat.le_of_ble_eq_true rfl))) (by rfl) (.inl (hfn _)))
    (ss_cons (ss_set (nnd hN (by decide)) (nix hN rfl) (loc hsc rfl) (se_bin op_addP ok_addP (so_m (se_bin op_addP ok_addP (so_m (se_slhi rfl (so_v (nix hN rfl) (vis hsc rfl)) (se_var (nix hN rfl) (vis hsc rfl)))) (so_m (se_tup (sv_cons (se_ixQ rfl (hu64 hr) (so_v (nix hN rfl) (vis hsc rfl)) (so_m (se_call D_law_draw rfl rfl (hr.mono (by decide)) (gls hsc rfl) tk (sa_cons (so_v (nix hN rfl) (vis hsc rfl)) (sa_cons (so_m se_int) sa_nil)))) (fun _ _ => rfl) (fun _ _ => rfl)) sv_nil) (by rw [sizeLine_eq]; exact Nat.le_of_ble_eq_true rfl))))) (so_m (se_sllo rfl (so_v (nix hN rfl) (vis hsc rfl)) (se_bin op_addP ok_addP (so_v (nix hN rfl) (vis hsc rfl)) (so_m se_int))))) (by rfl) (.inl (hfn _)))
    (ss_one (ss_ret (se_ixQ rfl (hu64 hr) (so_m (se_lst (sv_cons (se_var (nix hN rfl) (vis hsc rfl)) (sv_cons (se_var (nix hN rfl) (vis hsc rfl)) (sv_cons (se_var (nix hN rfl) (vis hsc rfl)) (sv_cons (se_var (nix hN rfl) (vis hsc rfl)) (sv_cons (se_callTy call_list_of ok_list (gls hsc rfl) T.m_list (by decide +kernel) (sa_cons (so_v (nix hN rfl) (vis hsc rfl)) sa_nil)) (sv_cons (se_ixQ rfl (hu64 hr) (so_v (nix hN rfl) (vis hsc rfl)) (so_v (nix hN rfl) (vis hsc rfl)) (fun _ _ => rfl) (fun _ _ => rfl)) (sv_cons (se_bin op_addP ok_addP (so_v (nix hN rfl) (vis hsc rfl)) (so_m (se_tup (sv_cons se_str sv_nil) (by rw [sizeLine_eq]; exact Nat.le_of_ble_eq_true rfl)))) sv_nil))))))) (by rw [sizeLine_eq]; exact Nat.le_of_ble_eq_true rfl))) (so_m (se_call D_law_draw rfl rfl (hr.mono (by decide)) (gls hsc rfl) tk (sa_cons (so_v (nix hN rfl) (vis hsc rfl)) (sa_cons (so_m se_int) sa_nil)))) (fun _ _ => rfl) (fun _ _ => rfl))))))))))
def m_is_tuple_within : SM :=
  (sRet (eAnd (eOp (f1 (isiP "tuple")) [(.v 0)]) (eChain leP leP (eVar 1) (eOp (f1 lenP) [(.v 0)]) (eVar 2))))
def d_is_tuple_within : List PV → DOut := runD 3 [false, false, false] m_is_tuple_within
abbrev sis_tuple_within : Stmt := top 1
theorem scis_tuple_within : FnScope [("thing" : Str), ("least" : Str), ("most" : Str)] [("thing" : Str), ("least" : Str), ("most" : Str)] (defScope sis_tuple_within) := ⟨rfl, rfl, rfl, by decide +kernel, rfl, by decide +kernel, by decide +kernel⟩
theorem ok_is_tuple_within {fd : FuncData} (F : FnP K ("is_tuple_within" : Str) sis_tuple_within (He.fAd K (("is_tuple_within" : Str), none)) fd) (T : Tx K w mg)  : FnOk P w K mg base (L2.CX P w) 1 (He.fAd K (("is_tuple_within" : Str), none)) fd [("thing" : Str), ("least" : Str), ("most" : Str)] (spD K (TBs K) mg [false, false, false] (runD 3 [false, false, false] (m_is_tuple_within))) := by
  refine okD (N := [("thing" : Str), ("least" : Str), ("most" : Str)]) (m := m_is_tuple_within) F scis_tuple_within rfl fun X W hPr hw hK hmg hb hN hcalm hsc hfn hcode hst hfr hr tk hp => ?_
  subst hPr hw hK hmg hb
  exact (ss_one (ss_ret (se_and (se_isi rfl (gls hsc rfl) T.m_isinstance (so_v (nix hN rfl) (vis hsc rfl)) (gls hsc rfl) T.m_tuple (by decide +kernel) (by decide)) (se_one (se_chain op_leP op_leP ok2S_leP ok2S_leP (se_var (nix hN rfl) (vis hsc rfl)) (se_callB call_lenP ok_len.ok (gls hsc rfl) T.m_len (by decide +kernel) (sa_cons (so_v (nix hN rfl) (vis hsc rfl)) sa_nil)) (se_var (nix hN rfl) (vis hsc rfl)))))))
def m_is_sign : SM :=
  (sRet (eAnd (eChain leP leP (eC (.str " ")) (eVar 0) (eC (.str "~"))) (eOp (f2 (inQ true)) [(.m (eOp (f1 ordP) [(.v 0)])), (.m (eC g_BARRED_CODES))])))
def d_is_sign : List PV → DOut := runD 1 [false] m_is_sign
abbrev sis_sign : Stmt := top 6
theorem scis_sign : FnScope [("sign" : Str)] [("sign" : Str)] (defScope sis_sign) := ⟨rfl, rfl, rfl, by decide +kernel, rfl, by decide +kernel, by decide +kernel⟩
theorem ok_is_sign {fd : FuncData} (F : FnP K ("is_sign" : Str) sis_sign (He.fAd K (("is_sign" : Str), none)) fd) (T : Tx K w mg)  : FnOk P w K mg base (L2.CX P w) 1 (He.fAd K (("is_sign" : Str), none)) fd [("sign" : Str)] (spD K (TBs K) mg [false] (runD 1 [false] (m_is_sign))) := by
  refine okD (N := [("sign" : Str)]) (m := m_is_sign) F scis_sign rfl fun X W hPr hw hK hmg hb hN hcalm hsc hfn hcode hst hfr hr tk hp => ?_
  subst hPr hw hK hmg hb
  exact (ss_one (ss_ret (se_and (se_chain op_leP op_leP ok2S_leP ok2S_leP se_str (se_var (nix hN rfl) (vis hsc rfl)) se_str) (se_one (se_cmp (op_niP.or (op_dni (hu64 hr))) (ok_niP.or ok_din) (so_m (se_callB call_ord ok_ord (gls hsc rfl) T.m_ord (by decide +kernel) (sa_cons (so_v (nix hN rfl) (vis hsc rfl)) sa_nil))) (so_m (se_gl T.g_BARRED_CODES (gls hsc rfl))) rfl)))))
def m_is_plain : SM :=
  (sRet (eAnd (eOp (f1 (isiP "str")) [(.v 0)]) (eQ (mSrc seqIt [(.v 0)]) [1] (gN 1) true (eCall [false] d_is_sign [(.v 1)]))))
def d_is_plain : List PV → DOut := runD 2 [false] m_is_plain
abbrev sis_plain : Stmt := top 7
theorem scis_plain : FnScope [("thing" : Str), ("sign" : Str)] [("thing" : Str)] (defScope sis_plain) := ⟨rfl, rfl, rfl, by decide +kernel, rfl, by decide +kernel, by decide +kernel⟩
theorem ok_is_plain {fd : FuncData} (F : FnP K ("is_plain" : Str) sis_plain (He.fAd K (("is_plain" : Str), none)) fd) (T : Tx K w mg) (B : GxR.TabB base mg (He.codeOf K (("is_plain" : Str), none)) (tb_is_plain K)) (hP : tb_is_plain K ∈ TBs K) (D_is_sign : Gc.DnS P w K mg base 1 ("is_sign" : Str) [("sign" : Str)] (spD K (TBs K) mg [false] (d_is_sign))) : FnOk P w K mg base (L2.CX P w) 3 (He.fAd K (("is_plain" : Str), none)) fd [("thing" : Str)] (spD K (TBs K) mg [false] (runD 2 [false] (m_is_plain))) := by
  refine okD (N := [("thing" : Str), ("sign" : Str)]) (m := m_is_plain) F scis_plain rfl fun X W hPr hw hK hmg hb hN hcalm hsc hfn hcode hst hfr hr tk hp => ?_
  subst hPr hw hK hmg hb
  exact (ss_one (ss_ret (se_and (se_isi rfl (gls hsc rfl) T.m_isinstance (so_v (nix hN rfl) (vis hsc rfl)) (gls hsc rfl) T.m_str (by decide +kernel) (by decide)) (se_one (se_all (W' := fun _ _ _ _ => False) (k := 1) (hr.mono (by decide)) (nnd hN (by decide)) (gls hsc rfl) T.m_all B hcode hP (si_seq rfl (so_v (nix hN rfl) (vis hsc rfl))) (bok (own := [(("sign" : Str), 1)]) hN hsc (by decide +kernel)) (by decide +kernel) rfl rfl okG_name (by decide) (fun _ _ _ _ _ _ _ => (pg_name (nnd hN (by decide)) (nix hN rfl) (loc rfl rfl) (by first | exact .inl rfl | exact .inr rfl | exact .inl (hfn _)))) (fun _ _ _ _ _ _ _ room => (se_call D_is_sign rfl rfl (room.mono (by decide)) (gls rfl rfl) LamX.takes0 (sa_cons (so_v (nix hN rfl) (vis rfl rfl)) sa_nil))))))))
def m_is_text : SM :=
  (sRet (eAnd (eCall [false] d_is_plain [(.v 0)]) (eOp (f2 leP) [(.m (eOp (f1 lenP) [(.v 0)])), (.v 1)])))
def d_is_text : List PV → DOut := runD 2 [false, false] m_is_text
abbrev sis_text : Stmt := top 8
theorem scis_text : FnScope [("thing" : Str), ("longest" : Str)] [("thing" : Str), ("longest" : Str)] (defScope sis_text) := ⟨rfl, rfl, rfl, by decide +kernel, rfl, by decide +kernel, by decide +kernel⟩
theorem ok_is_text {fd : FuncData} (F : FnP K ("is_text" : Str) sis_text (He.fAd K (("is_text" : Str), none)) fd) (T : Tx K w mg) (D_is_plain : Gc.DnS P w K mg base 3 ("is_plain" : Str) [("thing" : Str)] (spD K (TBs K) mg [false] (d_is_plain))) : FnOk P w K mg base (L2.CX P w) 4 (He.fAd K (("is_text" : Str), none)) fd [("thing" : Str), ("longest" : Str)] (spD K (TBs K) mg [false, false] (runD 2 [false, false] (m_is_text))) := by
  refine okD (N := [("thing" : Str), ("longest" : Str)]) (m := m_is_text) F scis_text rfl fun X W hPr hw hK hmg hb hN hcalm hsc hfn hcode hst hfr hr tk hp => ?_
  subst hPr hw hK hmg hb
  exact (ss_one (ss_ret (se_and (se_call D_is_plain rfl rfl (hr.mono (by decide)) (gls hsc rfl) tk (sa_cons (so_v (nix hN rfl) (vis hsc rfl)) sa_nil)) (se_one (se_cmp op_leP ok_leP (so_m (se_callB call_lenP ok_len.ok (gls hsc rfl) T.m_len (by decide +kernel) (sa_cons (so_v (nix hN rfl) (vis hsc rfl)) sa_nil))) (so_v (nix hN rfl) (vis hsc rfl)) (nomark _))))))
def m_is_line : SM :=
  (sRet (eCall [false, false] d_is_text [(.v 0), (.m (eC g_LONGEST_LINE))]))
def d_is_line : List PV → DOut := runD 1 [false] m_is_line
abbrev sis_line : Stmt := top 9
theorem scis_line : FnScope [("thing" : Str)] [("thing" : Str)] (defScope sis_line) := ⟨rfl, rfl, rfl, by decide +kernel, rfl, by decide +kernel, by decide +kernel⟩
theorem ok_is_line {fd : FuncData} (F : FnP K ("is_line" : Str) sis_line (He.fAd K (("is_line" : Str), none)) fd) (T : Tx K w mg) (D_is_text : Gc.DnS P w K mg base 4 ("is_text" : Str) [("thing" : Str), ("longest" : Str)] (spD K (TBs K) mg [false, false] (d_is_text))) : FnOk P w K mg base (L2.CX P w) 5 (He.fAd K (("is_line" : Str), none)) fd [("thing" : Str)] (spD K (TBs K) mg [false] (runD 1 [false] (m_is_line))) := by
  refine okD (N := [("thing" : Str)]) (m := m_is_line) F scis_line rfl fun X W hPr hw hK hmg hb hN hcalm hsc hfn hcode hst hfr hr tk hp => ?_
  subst hPr hw hK hmg hb
  exact (ss_one (ss_ret (se_call D_is_text rfl rfl (hr.mono (by decide)) (gls hsc rfl) tk (sa_cons (so_v (nix hN rfl) (vis hsc rfl)) (sa_cons (so_m (se_gl T.g_LONGEST_LINE (gls hsc rfl))) sa_nil)))))
def m_is_lines : SM :=
  (sRet (eAnd (eCall [false, false, false] d_is_tuple_within [(.v 0), (.m (eC (.int 0))), (.m (eC g_MOST_LINES))]) (eQ (mSrc seqIt [(.v 0)]) [1] (gN 1) true (eCall [false] d_is_line [(.v 1)]))))
def d_is_lines : List PV → DOut := runD 2 [false] m_is_lines
abbrev sis_lines : Stmt := top 10
theorem scis_lines : FnScope [("thing" : Str), ("line" : Str)] [("thing" : Str)] (defScope sis_lines) := ⟨rfl, rfl, rfl, by decide +kernel, rfl, by decide +kernel, by decide +kernel⟩
theorem ok_is_lines {fd : FuncData} (F : FnP K ("is_lines" : Str) sis_lines (He.fAd K (("is_lines" : Str), none)) fd) (T : Tx K w mg) (B : GxR.TabB base mg (He.codeOf K (("is_lines" : Str), none)) (tb_is_lines K)) (hP : tb_is_lines K ∈ TBs K) (D_is_line : Gc.DnS P w K mg base 5 ("is_line" : Str) [("thing" : Str)] (spD K (TBs K) mg [false] (d_is_line))) (D_is_tuple_within : Gc.DnS P w K mg base 1 ("is_tuple_within" : Str) [("thing" : Str), ("least" : Str), ("most" : Str)] (spD K (TBs K) mg [false, false, false] (d_is_tuple_within))) : FnOk P w K mg base (L2.CX P w) 7 (He.fAd K (("is_lines" : Str), none)) fd [("thing" : Str)] (spD K (TBs K) mg [false] (runD 2 [false] (m_is_lines))) := by
  refine okD (N := [("thing" : Str), ("line" : Str)]) (m := m_is_lines) F scis_lines rfl fun X W hPr hw hK hmg hb hN hcalm hsc hfn hcode hst hfr hr tk hp => ?_
  subst hPr hw hK hmg hb
  exact (ss_one (ss_ret (se_and (se_call D_is_tuple_within rfl rfl (hr.mono (by decide)) (gls hsc rfl) tk (sa_cons (so_v (nix hN rfl) (vis hsc rfl)) (sa_cons (so_m se_int) (sa_cons (so_m (se_gl T.g_MOST_LINES (gls hsc rfl))) sa_nil)))) (se_one (se_all (W' := fun _ _ _ _ => False) (k := 5) (hr.mono (by decide)) (nnd hN (by decide)) (gls hsc rfl) T.m_all B hcode hP (si_seq rfl (so_v (nix hN rfl) (vis hsc rfl))) (bok (own := [(("line" : Str), 1)]) hN hsc (by decide +kernel)) (by decide +kernel) rfl rfl okG_name (by decide) (fun _ _ _ _ _ _ _ => (pg_name (nnd hN (by decide)) (nix hN rfl) (loc rfl rfl) (by first | exact .inl rfl | exact .inr rfl | exact .inl (hfn _)))) (fun _ _ _ _ _ _ _ room => (se_call D_is_line rfl rfl (room.mono (by decide)) (gls rfl rfl) LamX.takes0 (sa_cons (so_v (nix hN rfl) (vis rfl rfl)) sa_nil))))))))
def m__law_is : SM :=
  (sSeq (sIf (cOr (cNot (cOf (eOp (f1 (isiP "tuple")) [(.v 0)]))) (cOr (cOf (eOp (f2 gtI) [(.m (eOp (f1 lenP) [(.v 0)])), (.m (eC (.int 12)))])) (cNot (cOf (eOp (f1 allLP) [(.m (eLc (mSrc seqIt [(.v 0)]) [1] (gN 1) cTrue (eOp (f1 (isiP "str")) [(.v 1)])))]))))) (sRet (eC (.bl false))) sSkip)
  (sSeq (sFor (mSrc seqIt [(.v 0)]) (gN 1)
  (sSeq (sAsg 2 (eLc (mSrc seqIt [(.m (eVar 1))]) [4] (gN 4) cTrue (eOp (f1 ordP) [(.v 4)])))
  (sSeq (sAsg 3 (eLc (mSrc seqIt [(.m (eVar 2))]) [5] (gN 5) (cOr (cNot (cOf (eChain leP leP (eC (.int 32)) (eVar 5) (eC (.int 126))))) (cOf (eOp (f2 (inQ false)) [(.v 5), (.m (eTup [(eC (.int 37)), (eC (.int 92))]))]))) (eVar 5)))
  (sIf (cOr (cOf (eOp (f2 gtI) [(.m (eOp (f1 lenP) [(.v 1)])), (.m (eC (.int 60)))])) (cOf (eOp (f2 (lift2 eqP not)) [(.v 3), (.m (eLst []))]))) (sRet (eC (.bl false))) sSkip))))
  (sRet (eC (.bl true)))))
def d__law_is : List PV → DOut := runD 6 [false] m__law_is
abbrev slaw_is : Stmt := top 14
theorem sclaw_is : FnScope [("thing" : Str), ("line" : Str), ("codes" : Str), ("odd" : Str), ("sign" : Str), ("code" : Str)] [("thing" : Str)] (defScope slaw_is) := ⟨rfl, rfl, rfl, by decide +kernel, rfl, by decide +kernel, by decide +kernel⟩
theorem ok_law_is {fd : FuncData} (F : FnP K ("_law_is" : Str) slaw_is (He.fAd K (("_law_is" : Str), none)) fd) (T : Tx K w mg)  : FnOk P w K mg base (L2.CX P w) 1 (He.fAd K (("_law_is" : Str), none)) fd [("thing" : Str)] (spD K (TBs K) mg [false] (runD 6 [false] (m__law_is))) := by
  refine okD (N := [("thing" : Str), ("line" : Str), ("codes" : Str), ("odd" : Str), ("sign" : Str), ("code" : Str)]) (m := m__law_is) F sclaw_is rfl fun X W hPr hw hK hmg hb hN hcalm hsc hfn hcode hst hfr hr tk hp => ?_
  subst hPr hw hK hmg hb
  exact (ss_cons (ss_if (PW.pt (st_or (st_not (st_val (se_isi rfl (gls hsc rfl) T.m_isinstance (so_v (nix hN rfl) (vis hsc rfl)) (gls hsc rfl) T.m_tuple (by decide +kernel) (by decide)))) (st_or (st_cmp op_gt ok_gtI (so_m (se_callB call_lenP ok_len.ok (gls hsc rfl) T.m_len (by decide +kernel) (sa_cons (so_v (nix hN rfl) (vis hsc rfl)) sa_nil))) (so_m se_int) (nomark _)) (st_or1 (st_not (st_val (se_callB (cr_all hcalm) ok_allL (gls hsc rfl) T.m_all (by decide +kernel) (sa_cons (so_m (se_lc (W' := fun _ _ _ _ => False) hcalm (nnd hN (by decide)) (si_seq rfl (so_v (nix hN rfl) (vis hsc rfl))) (bok (own := [(("line" : Str), 1)]) hN hsc (by decide +kernel)) okG_name (by decide) (fun _ _ _ h => yes_of h) (fun _ _ _ _ _ => (pg_name (nnd hN (by decide)) (nix hN rfl) (locR rfl rfl) (by first | exact .inl rfl | exact .inr rfl | exact .inl (hfn _)))) (fun _ _ _ _ _ => pts_nil) (fun _ _ _ _ _ => (se_isi rfl (glR rfl rfl) T.m_isinstance (so_v (nix hN rfl) (visR rfl rfl)) (glR rfl rfl) T.m_str (by decide +kernel) (by decide))))) sa_nil)))))))) (ss_one (ss_ret se_bl)) ss_nil)
    (ss_cons (ss_for hp hcalm okG_name (si_seq rfl (so_v (nix hN rfl) (vis hsc rfl))) (pg_name (nnd hN (by decide)) (nix hN rfl) (loc hsc rfl) (by first | exact .inl rfl | exact .inr rfl | exact .inl (hfn _))) (ss_cons (ss_setLc (W' := fun _ _ _ _ => False) hcalm (nnd hN (by decide)) (nix hN rfl) (lcl hsc rfl) (swl hsc rfl rfl rfl (by decide +kernel)) (si_seq rfl (so_m (se_var (nix hN rfl) (vis hsc rfl)))) (bok (own := [(("sign" : Str), 4)]) hN hsc (by decide +kernel)) okG_name (by decide) (fun _ _ _ h => yes_of h) (fun _ _ _ _ _ => (pg_name (nnd hN (by decide)) (nix hN rfl) (locR rfl rfl) (by first | exact .inl rfl | exact .inr rfl | exact .inl (hfn _)))) (fun _ _ _ _ _ => pts_nil) (fun _ _ _ _ _ => (se_callB call_ord ok_ord (glR rfl rfl) T.m_ord (by decide +kernel) (sa_cons (so_v (nix hN rfl) (visR rfl rfl)) sa_nil))))
    (ss_cons (ss_setLc (W' := fun _ _ _ _ => False) hcalm (nnd hN (by decide)) (nix hN rfl) (lcl hsc rfl) (swl hsc rfl rfl rfl (by decide +kernel)) (si_seq rfl (so_m (se_var (nix hN rfl) (vis hsc rfl)))) (bok (own := [(("code" : Str), 5)]) hN hsc (by decide +kernel)) okG_name (by decide) (fun _ _ _ h => h) (fun _ _ _ _ _ => (pg_name (nnd hN (by decide)) (nix hN rfl) (locR rfl rfl) (by first | exact .inl rfl | exact .inr rfl | exact .inl (hfn _)))) (fun _ _ _ _ _ => (pts_one (PW.pt (st_or (st_not (st_chain op_leP op_leP ok2S_leP ok2S_leP se_int (se_var (nix hN rfl) (visR rfl rfl)) se_int)) (st_or1 (st_cmp (op_inP.or (op_din (hu64 hr))) (ok_inP.or ok_din) (so_v (nix hN rfl) (visR rfl rfl)) (so_m (se_tup (sv_cons se_int (sv_cons se_int sv_nil)) (by rw [sizeLine_eq]; exact Nat.le_of_ble_eq_true rfl))) rfl)))))) (fun _ _ _ _ _ => (se_var (nix hN rfl) (visR rfl rfl))))
    (ss_one (ss_if (PW.pt (st_or (st_cmp op_gt ok_gtI (so_m (se_callB call_lenP ok_len.ok (gls hsc rfl) T.m_len (by decide +kernel) (sa_cons (so_v (nix hN rfl) (vis hsc rfl)) sa_nil))) (so_m se_int) (nomark _)) (st_or1 (st_cmp (op_neP (hu64 hr)) ok_neP (so_v (nix hN rfl) (vis hsc rfl)) (so_m (se_lst sv_nil (by rw [sizeLine_eq]; exact Nat.le_of_ble_eq_true rfl))) (nomark _))))) (ss_one (ss_ret se_bl)) ss_nil)))))
    (ss_one (ss_ret se_bl))))
def m_law : SM :=
  (sSeq (sAsg 1 (eCall [false] d__law_pen [(.v 0)]))
  (sSeq (sFor (mSrc rngIt1 [(.m (eOp (f2 addP) [(.m (eC (.int 5))), (.m (eCall [true, false] d__law_draw [(.v 1), (.m (eC (.int 26)))]))]))]) (gN 2)
  (sSeq (sAsg 3 (eCall [true] d__law_thing [(.v 1)]))
  (sSeq (sAsg 4 (eOp (f1 reprP) [(.v 3)]))
  (sSeq (sAsg 5 (eCall [false] d_is_lines [(.v 3)]))
  (sIf (cOr (cNot (cOf (eOp (f1 (isiP "bool")) [(.v 5)]))) (cOr (cOf (eOp (f2 (lift2 eqP not)) [(.v 5), (.m (eCall [false] d__law_is [(.v 3)]))])) (cOf (eOp (f2 (lift2 eqP not)) [(.m (eOp (f1 reprP) [(.v 3)])), (.v 4)])))) (sRet (eC (.bl false))) sSkip)))))
  (sRet (eAnd (eOp (f2 (lift2 isB id)) [(.m (eCall [false] d_is_lines [(.m (eTup []))])), (.m (eC (.bl true)))]) (eOp (f2 (lift2 isB id)) [(.m (eCall [false] d_is_lines [(.m (eTup [(eC (.str ""))]))])), (.m (eC (.bl true)))])))))
def d_law : List PV → DOut := runD 6 [false] m_law
abbrev slaw : Stmt := top 17
theorem sclaw : FnScope [("script" : Str), ("pen" : Str), ("k" : Str), ("thing" : Str), ("kept" : Str), ("found" : Str)] [("script" : Str)] (defScope slaw) := ⟨rfl, rfl, rfl, by decide +kernel, rfl, by decide +kernel, by decide +kernel⟩
theorem ok_law {fd : FuncData} (F : FnP K ("law" : Str) slaw (He.fAd K (("law" : Str), none)) fd) (T : Tx K w mg) (D_law_draw : Gc.DnS P w K mg base 1 ("_law_draw" : Str) [("pen" : Str), ("many" : Str)] (spD K (TBs K) mg [true, false] (d__law_draw))) (D_law_is : Gc.DnS P w K mg base 1 ("_law_is" : Str) [("thing" : Str)] (spD K (TBs K) mg [false] (d__law_is))) (D_law_pen : Gc.DnS P w K mg base 1 ("_law_pen" : Str) [("script" : Str)] (spD K (TBs K) mg [false] (d__law_pen))) (D_law_thing : Gc.DnS P w K mg base 3 ("_law_thing" : Str) [("pen" : Str)] (spD K (TBs K) mg [true] (d__law_thing))) (D_is_lines : Gc.DnS P w K mg base 7 ("is_lines" : Str) [("thing" : Str)] (spD K (TBs K) mg [false] (d_is_lines))) : Gr.FnG P w K mg base 8 (He.fAd K (("law" : Str), none)) fd [("script" : Str)] (spG K (TBs K) mg [false] (runD 6 [false] (m_law))) := by
  refine okDG (N := [("script" : Str), ("pen" : Str), ("k" : Str), ("thing" : Str), ("kept" : Str), ("found" : Str)]) (m := m_law) F sclaw rfl fun X hPr hw hK hmg hb hN hcalm hsc hfn hgd hr tk hp => ?_
  subst hPr hw hK hmg hb
  exact (ss_cons (ss_set (nnd hN (by decide)) (nix hN rfl) (loc hsc rfl) (se_call D_law_pen rfl rfl (hr.mono (by decide)) (gls hsc rfl) tk (sa_cons (so_v (nix hN rfl) (vis hsc rfl)) sa_nil)) (by rfl) (.inl (hfn _)))
    (ss_cons (ss_for hp hcalm okG_name (si_range1 (gls hsc rfl) T.m_range (sa_cons (so_m (se_bin op_addP ok_addP (so_m se_int) (so_m (se_call D_law_draw rfl rfl (hr.mono (by decide)) (gls hsc rfl) tk (sa_cons (so_v (nix hN rfl) (vis hsc rfl)) (sa_cons (so_m se_int) sa_nil)))))) sa_nil)) (pg_name (nnd hN (by decide)) (nix hN rfl) (loc hsc rfl) (by first | exact .inl rfl | exact .inr rfl | exact .inl (hfn _))) (ss_cons (ss_set (nnd hN (by decide)) (nix hN rfl) (loc hsc rfl) (se_call D_law_thing rfl rfl (hr.mono (by decide)) (gls hsc rfl) tk (sa_cons (so_v (nix hN rfl) (vis hsc rfl)) sa_nil)) (by rfl) (.inl (hfn _)))
    (ss_cons (ss_set (nnd hN (by decide)) (nix hN rfl) (loc hsc rfl) (se_callB (call_reprP hgd (hu70 hr)) ok_repr (gls hsc rfl) T.m_repr (by decide +kernel) (sa_cons (so_v (nix hN rfl) (vis hsc rfl)) sa_nil)) (by rfl) (.inl (hfn _)))
    (ss_cons (ss_set (nnd hN (by decide)) (nix hN rfl) (loc hsc rfl) (se_call D_is_lines rfl rfl (hr.mono (by decide)) (gls hsc rfl) tk (sa_cons (so_v (nix hN rfl) (vis hsc rfl)) sa_nil)) (by rfl) (.inl (hfn _)))
    (ss_one (ss_if (PW.pt (st_or (st_not (st_val (se_isi rfl (gls hsc rfl) T.m_isinstance (so_v (nix hN rfl) (vis hsc rfl)) (gls hsc rfl) T.m_bool (by decide +kernel) (by decide)))) (st_or (st_cmp (op_neP (hu64 hr)) ok_neP (so_v (nix hN rfl) (vis hsc rfl)) (so_m (se_call D_law_is rfl rfl (hr.mono (by decide)) (gls hsc rfl) tk (sa_cons (so_v (nix hN rfl) (vis hsc rfl)) sa_nil))) (nomark _)) (st_or1 (st_cmp (op_neP (hu64 hr)) ok_neP (so_m (se_callB (call_reprP hgd (hu70 hr)) ok_repr (gls hsc rfl) T.m_repr (by decide +kernel) (sa_cons (so_v (nix hN rfl) (vis hsc rfl)) sa_nil))) (so_v (nix hN rfl) (vis hsc rfl)) (nomark _)))))) (ss_one (ss_ret se_bl)) ss_nil))))))
    (ss_one (ss_ret (se_and (se_cmp op_isBl ok_isB (so_m (se_call D_is_lines rfl rfl (hr.mono (by decide)) (gls hsc rfl) tk (sa_cons (so_m (se_tup sv_nil (by rw [sizeLine_eq]; exact Nat.le_of_ble_eq_true rfl))) sa_nil))) (so_m se_bl) (nomark _)) (se_one (se_cmp op_isBl ok_isB (so_m (se_call D_is_lines rfl rfl (hr.mono (by decide)) (gls hsc rfl) tk (sa_cons (so_m (se_tup (sv_cons se_str sv_nil) (by rw [sizeLine_eq]; exact Nat.le_of_ble_eq_true rfl))) sa_nil))) (so_m se_bl) (nomark _))))))))
end
section
local macro_rules | `(tactic| trivial) => `(tactic| simp only [WE_ok, WE_exc, WE_bad, WO_some, WO_none, WO_ite, WO_map, WE_C, WE_var, evOps_nil, WE_opsv, WE_opsm, WE_op, WE_opT, look_nil, look_v, look_m, evL_nil, WE_evL, WE_tup, WE_lst, WE_frz, isI_int, WE_int, isS_str, WE_str, isBo_bl, WE_cOf, WE_cNot, WE_cTrue, WE_cAnd, WE_cOr, WE_not, WE_and, WE_or, WE_if, WE_chain, WE_dict0, WE_ty, lookC_nil, lookC_fv, lookC_fm, lookC_tv, WD_ok, WD_exc, WD_run, WS_seq, WS_skip, WS_bk, WS_ct, WS_asg, setOk_n, setOk_o, setOk_b, WS_expr, WS_ret, WS_retN, WS_retV, WS_if, WS_raise, WE_mut, WS_asgG, WS_par2, WS_aug, WE_src, lookS_nil, lookS_v, lookS_m, WS_for, WS_for_nil, WE_lc, WE_q, kCons, kM, kOp, kOpT, kConsL, kL, kTup, kLst, kFrz, kInt, kStr, kTy, kOf, kcNot, kcAnd, kcOr, kNot, kAnd, kOr, kAnd2, kOr2, kIf, kCh, kCh2, kCh3, kCh4, kCl0, kXl0, kCall0, kCl1, kXl1, kCall1, kSeq, kAsg, kExpr, kRet, kSIf, kMut, kAsgG, kPar, kPar1, kAug, kSrc, kFor, kLcE, kLc, kQE, kQ, f1, f2, f1B, frees_ints, frees_strs, frzs_ints, frzs_strs, free_non, free_bl, free_int, free_str, free_tup, free_lstT, free_lstF, free_rol, frz_non, frz_bl, frz_int, frz_str, frz_tup, frz_lst, frz_rol, frees_nil, frees_cons, frzs_nil, frzs_cons, WO_add, WO_sub, WO_mul, WO_mod, WO_div, WO_pow, WO_neg, WO_lt, WO_gt, WO_ge, WO_le, le_blank, le_tilde, le_a, le_z, WO_max2, WO_min2, WO_intB, WO_intI, WO_strI, WO_addS, WO_mulS, WO_ord1, WO_lenS, WO_lenT, WO_lenL, WO_lenR, WO_ixS, WO_ixT, WO_ixL, WO_ixR, at0, at1, at2, at3, at4, at5, at6, at7, isi_non, isi_bl, isi_int, isi_str, isi_tup, isi_lst, isi_dct, tys_non, tys_bl, tys_int, tys_str, tys_tup, tys_lst, tys_dct, WO_l2, WB_eqI, WB_eqS, WB_eqB, WB_eqSN, WB_eqNS, WB_eqSI, WB_eqIS, WB_eqBS, WB_isN, WB_isNI, WB_isNS, WB_isNB, WB_isNT, WB_isNL, WB_isB, WB_truB, WB_truI, WB_truN, WB_truT, WB_truL, WB_truS, WO_inT, WO_inL, WO_inSg, WO_addT, WO_addL, WO_listT, WO_listL, WO_tupL, WO_tupT, sl0, sllo, slhi, sl2, WO_slS, WO_slT, WO_slL, WO_slR, WI_rng, WI_rng2, frees_rng, WI_seqT, WI_seqL, WI_seqR, WI_seqS, WI_revL, WI_enL, WI_enT, WI_zpL, WI_zpT, WM_app, WM_ins, WM_ext, WM_set0, WM_set1, WM_set2, isLstO_T, mulC_eq, WM_rev, WM_clr, frees_signs, entsD, outsE, List.replicate, List.append_nil, List.cons_append, List.nil_append, List.getElem?_cons_zero, List.getElem?_cons_succ, List.set_cons_zero, List.set_cons_succ, Bool.and_true, Bool.true_and, Bool.and_false, Bool.false_and, Bool.or_true, Bool.true_or, Bool.or_false, Bool.false_or, Bool.not_true, Bool.not_false, if_true, if_false, ite_true, ite_false, Bool.false_eq_true, true_and, and_true, ne_eq, not_false_eq_true, not_true_eq_false, reduceCtorEq, List.length_cons, List.length_nil, List.length_map, exists_eq_left', exists_eq_left, and_self, List.all_cons, List.all_nil, keptE, bne_self_eq_false', wipeE, restE, entOf, List.nodup_nil, gN, gT, gL, decide_eq_true_eq, Int.reduceLE, Int.reduceLT, Int.reduceMod, Int.reduceAdd, Int.reduceSub, Int.reduceNeg, Int.reduceToNat, Int.reducePow, Nat.reduceAdd, Nat.reduceLT, Nat.reduceLeDiff, Nat.reducePow, PV.int.injEq, PV.str.injEq, PV.bl.injEq, PV.tup.injEq, List.cons.injEq, exists_and_left, exists_eq', exists_eq, decide_true, decide_false, or_true, true_or, and_false, false_and, WE_call, kSel_0, kSel_1, ioIx, isTy_NoneType_str, isTy_NoneType_int, isTy_NoneType_bool, isTy_NoneType_tuple, isTy_NoneType_list, isTy_bool_str, isTy_bool_int, isTy_bool_bool, isTy_bool_tuple, isTy_bool_list, isTy_int_str, isTy_int_int, isTy_int_bool, isTy_int_tuple, isTy_int_list, isTy_str_str, isTy_str_int, isTy_str_bool, isTy_str_tuple, isTy_str_list, isTy_tuple_str, isTy_tuple_int, isTy_tuple_bool, isTy_tuple_tuple, isTy_tuple_list, isTy_list_str, isTy_list_int, isTy_list_bool, isTy_list_tuple, isTy_list_list, isTy_dict_str, isTy_dict_int, isTy_dict_bool, isTy_dict_tuple, isTy_dict_list, List.nodup_cons, List.mem_cons, List.not_mem_nil, List.mem_singleton, flatP, List.any_cons, List.any_nil, eqFP, Nat.reduceEqDiff, kd_ob, kd_ib, kd_bb, Option.map_some, Option.map_none, frees_bls, frees_intF, frees_strF, frzs_bls, frzs_intF, frzs_strF, cd1])
def pen (cs : List Int) (a r : Int) : PV := .lst true [.lst false (cs.map .int), .int a, .int r]
def Pn (k : Nat) (p : PV) : Prop := ∃ cs a r, p = pen cs a r ∧ 0 ≤ a ∧ a + k ≤ 2 ^ 62 ∧ 0 ≤ r ∧ cs.length ≤ 63
theorem Pn.mk {k : Nat} {cs : List Int} {a r : Int} (h1 : 0 ≤ a) (h2 : a + k ≤ 2 ^ 62) (h3 : 0 ≤ r) (h4 : cs.length ≤ 63) : Pn k (.lst true [.lst false (cs.map .int), .int a, .int r]) := ⟨cs, a, r, rfl, h1, h2, h3, h4⟩
theorem Pn.less {k j : Nat} {p : PV} (h : Pn k p) (l : j ≤ k) : Pn j p := by
  obtain ⟨cs, a, r, e, h1, h2, h3, h4⟩ := h
  exact ⟨cs, a, r, e, h1, by omega, h3, h4⟩
theorem mod_in {i n : Int} (h : 0 < n) : 0 ≤ i % n ∧ i % n < n := ⟨Int.emod_nonneg _ (by omega), Int.emod_lt_of_pos _ h⟩
theorem draw_ok {k : Nat} {p : PV} {n : Int} (h : Pn (k + 1) p) (h0 : 0 < n) (h1 : n < 1073741824) : WD (d__law_draw [p, .int n]) (fun x os => ∃ v p', x = .int v ∧ os = [p'] ∧ 0 ≤ v ∧ v < n ∧ Pn k p') XN := by
  obtain ⟨cs, a, r, rfl, ha, hk, hr, hl⟩ := h
  have p1 : ∀ r', 0 ≤ r' → Pn k (.lst true [.lst false (cs.map .int), .int (a + 1), .int r']) := fun r' h' => Pn.mk (by omega) (by omega) h' hl
  have m0 := fun i => (mod_in (i := i) h0).1
  have m1 := fun i => (mod_in (i := i) h0).2
  have dv : ∀ i : Int, 0 ≤ i → 0 ≤ i / n := fun i hi => Int.ediv_nonneg hi (by omega)
  unfold d__law_draw m__law_draw pen
  (try trivial)
  split
  · exact ⟨h0, ⟨h0, h1⟩, m0 _, m1 _, Pn.mk ha (by omega) (dv _ hr) hl⟩
  · split
    · refine ⟨by omega, WO_at (mod_in (by omega)).1 (by rw [List.length_map]; exact (mod_in (by omega)).2) fun y hy _ => ?_⟩
      obtain ⟨c, _, rfl⟩ := List.mem_map.mp hy
      (try trivial)
      repeat' (first | apply And.intro | split)
      all_goals first | assumption | exact m0 _ | exact m1 _ | exact p1 _ hr | exact p1 _ (dv _ (by omega)) | decide | omega
    · repeat' (first | apply And.intro | split)
      all_goals first | assumption | exact m0 _ | exact m1 _ | exact p1 _ hr | exact p1 _ (dv _ (by omega)) | decide | omega

/-! ### names, lines: what the program tells -/
theorem is_sign_eq (c : Nat) : d_is_sign [.str ⟨#[c]⟩] = .ok (.bl (signB c)) [] := WD.eq <| by
  unfold d_is_sign m_is_sign g_BARRED_CODES
  (try trivial)
  unfold signB
  have e1 : ((37 : Int) == (c : Int)) = (c == 37) := by
    by_cases h : c = 37
    · subst h; rfl
    · rw [beq_eq_false_iff_ne.mpr h, beq_eq_false_iff_ne.mpr (by omega)]
  have e2 : ((92 : Int) == (c : Int)) = (c == 92) := by
    by_cases h : c = 92
    · subst h; rfl
    · rw [beq_eq_false_iff_ne.mpr h, beq_eq_false_iff_ne.mpr (by omega)]
  rw [e1, e2]
  by_cases h1 : 32 ≤ c <;> by_cases h2 : c ≤ 126 <;> simp [h1, h2]
theorem plain_eq {z : Str} : d_is_plain [.str z] = .ok (.bl (plainB (.str z))) [] := WD.eq <| by
  unfold d_is_plain m_is_plain
  (try trivial)
  refine WQ_all (fun x => signB (cdP x)) [some (Kd.bor, PV.str z), none] rfl (fun x hx => ?_) ?_
  · obtain ⟨c, _, rfl⟩ := List.mem_map.mp hx
    (try trivial)
    rw [is_sign_eq]
    (try trivial)
    (try rfl)
  · trivial
    rw [all_sg]
    rfl
theorem plain_no {x : PV} {t : String} (h : tyP x = some t) (n : t ≠ "str") : d_is_plain [x] = .ok (.bl false) [] := by
  cases x <;> first | rfl | (exfalso; cases h; exact n rfl) | cases h
theorem text_eq {z : Str} {n : Int} (h : z.length ≤ 1000000) : d_is_text [.str z, .int n] = .ok (.bl (textB n (.str z))) [] := WD.eq <| by
  unfold d_is_text m_is_text
  (try trivial)
  rw [plain_eq]
  (try trivial)
  have hc : z.length ≤ CAP := Nat.le_trans h (by decide)
  unfold plainB textB
  by_cases hp : z.cps.toList.all signB = true <;> simp [hp, hc]
theorem text_no {x : PV} {t : String} {n : Int} (h : tyP x = some t) (k : t ≠ "str") : d_is_text [x, .int n] = .ok (.bl false) [] := WD.eq <| by
  unfold d_is_text m_is_text
  (try trivial)
  rw [plain_no h k]
  (try trivial)
theorem textB_no {x : PV} {t : String} {n : Int} (h : tyP x = some t) (k : t ≠ "str") : textB n x = false := by
  cases x <;> first | rfl | (exfalso; cases h; exact k rfl)
theorem line_eq {x : PV} (h : x.sane = true) : d_is_line [x] = .ok (.bl (textB 60 x)) [] := WD.eq <| by
  unfold d_is_line m_is_line g_LONGEST_LINE
  (try trivial)
  rcases sane_shape h with rfl | ⟨b, rfl⟩ | ⟨i, rfl⟩ | ⟨z, rfl, hz⟩ | ⟨xs, rfl, h1, h2⟩ | ⟨xs, rfl, h1, h2⟩ | ⟨ks, xs, rfl⟩
  · rw [text_no ty_non (by decide), textB_no ty_non (by decide)]; trivial
  · rw [text_no ty_bl (by decide), textB_no ty_bl (by decide)]; trivial
  · rw [text_no ty_int (by decide), textB_no ty_int (by decide)]; trivial
  · rw [text_eq hz]; trivial
  · rw [text_no ty_tup (by decide), textB_no ty_tup (by decide)]; trivial
  · rw [text_no ty_lstE (by decide), textB_no ty_lstE (by decide)]; trivial
  · rw [text_no ty_dct (by decide), textB_no ty_dct (by decide)]; trivial
theorem tupW_eq {x : PV} {a b : Int} (h : x.sane = true) : d_is_tuple_within [x, .int a, .int b] = .ok (.bl (tupWB a b x)) [] := WD.eq <| by
  unfold d_is_tuple_within m_is_tuple_within
  rcases sane_shape h with rfl | ⟨_, rfl⟩ | ⟨i, rfl⟩ | ⟨z, rfl, hz⟩ | ⟨xs, rfl, h1, h2⟩ | ⟨xs, rfl, h1, h2⟩ | ⟨ks, xs, rfl⟩
  case inr.inr.inr.inr.inl =>
    (try trivial)
    unfold tupWB
    by_cases h1 : a ≤ (xs.length : Int) <;> simp [h1]
  all_goals
    (try trivial)
    rfl
theorem lines_eq {x : PV} (h : x.sane = true) : d_is_lines [x] = .ok (.bl (linesB x)) [] := WD.eq <| by
  unfold d_is_lines m_is_lines g_MOST_LINES
  (try trivial)
  rw [tupW_eq h]
  (try trivial)
  rcases sane_shape h with rfl | ⟨_, rfl⟩ | ⟨i, rfl⟩ | ⟨z, rfl, hz⟩ | ⟨xs, rfl, h1, h2⟩ | ⟨xs, rfl, h1, h2⟩ | ⟨ks, xs, rfl⟩
  case inr.inr.inr.inr.inl =>
    (try trivial)
    have fr : PV.frees xs = true := sane_free h
    rw [linesB_tup]
    split
    · rename_i hw
      refine ⟨fr, WQ_all (textB 60) [some (Kd.bor, PV.tup xs), none] rfl (fun x hx => ?_) ?_⟩
      · trivial
        rw [line_eq (h1 x hx)]
        (try trivial)
      · trivial
        have hw' : (decide (0 ≤ (xs.length : Int)) && decide ((xs.length : Int) ≤ 12)) = true := hw
        simp only [Bool.and_eq_true, decide_eq_true_eq] at hw'
        rw [decide_eq_true (show xs.length ≤ 12 by omega)]
        rfl
    · rename_i hw
      have hw' : ¬ (decide (0 ≤ (xs.length : Int)) && decide ((xs.length : Int) ≤ 12)) = true := hw
      simp only [Bool.and_eq_true, decide_eq_true_eq] at hw'
      rw [decide_eq_false (show ¬ xs.length ≤ 12 by omega)]
      rfl
  all_goals
    simp only [tupWB, Bool.false_eq_true, if_false]
    rfl

/-! ### what the law's own look tells -/
structure LI (zs : List Str) (r : List PV) (e : Ev.Env) : Prop where
  ex : ∃ (a b c : Ent) (us : List Str), e = [some (Kd.bor, PV.tup (zs.map .str)), a, b, c, none, none] ∧ Own a ∧ Own b ∧ Own c ∧ r = us.map PV.str ∧ (∀ u ∈ us, u ∈ zs) ∧ zs.all (fun z => textB 60 (.str z)) = us.all (fun z => textB 60 (.str z))
theorem odd_ok (c : Nat) : (!(decide (32 ≤ (c : Int)) && decide ((c : Int) ≤ 126)) || ((37 : Int) == c || (92 : Int) == c)) = !signB c := by
  have e1 : ((37 : Int) == (c : Int)) = (c == 37) := by
    by_cases h : c = 37
    · subst h; rfl
    · rw [beq_eq_false_iff_ne.mpr h, beq_eq_false_iff_ne.mpr (by omega)]
  have e2 : ((92 : Int) == (c : Int)) = (c == 92) := by
    by_cases h : c = 92
    · subst h; rfl
    · rw [beq_eq_false_iff_ne.mpr h, beq_eq_false_iff_ne.mpr (by omega)]
  rw [e1, e2]
  have e3 : decide (32 ≤ (c : Int)) = decide (32 ≤ c) := by
    by_cases h : 32 ≤ c
    · rw [decide_eq_true h, decide_eq_true (by omega)]
    · rw [decide_eq_false h, decide_eq_false (by omega)]
  have e4 : decide ((c : Int) ≤ 126) = decide (c ≤ 126) := by
    by_cases h : c ≤ 126
    · rw [decide_eq_true h, decide_eq_true (by omega)]
    · rw [decide_eq_false h, decide_eq_false (by omega)]
  rw [e3, e4]
  unfold signB
  cases decide (32 ≤ c) <;> cases decide (c ≤ 126) <;> cases (c == 37) <;> cases (c == 92) <;> rfl
def inI : PV → Int
  | .int i => i
  | _ => 0
theorem law_is_eq {x : PV} (h : x.sane = true) (hs : ∀ xs, x = .tup xs → ∀ z, PV.str z ∈ xs → Sh 900 z) : d__law_is [x] = .ok (.bl (linesB x)) [] := WD.eq <| by
  unfold d__law_is m__law_is
  rcases sane_shape h with rfl | ⟨_, rfl⟩ | ⟨i, rfl⟩ | ⟨z, rfl, hz⟩ | ⟨xs, rfl, h1, h2⟩ | ⟨xs, rfl, h1, h2⟩ | ⟨ks, xs, rfl⟩
  case inr.inr.inr.inr.inl =>
    have fr : PV.frees xs = true := sane_free h
    have cap : xs.length < CAP := Nat.lt_of_le_of_lt h2 (by decide)
    (try trivial)
    rw [linesB_tup]
    split
    · rename_i hl
      rw [decide_eq_false (show ¬ xs.length ≤ 12 by omega)]
      rfl
    · rename_i hl
      rw [decide_eq_true (show xs.length ≤ 12 by omega), Bool.true_and]
      refine ⟨fr, cap, WL_map1 (fun x => .bl (isStrP x)) [some (Kd.bor, PV.tup xs), none, none, none, none, none] rfl (fun x hx => ?_) ?_⟩
      · trivial
        rw [isi_strX (h1 x hx)]
      · trivial
        rw [WO_allL]
        (try trivial)
        split
        · rename_i ha
          have : xs.all (textB 60) = false := by
            cases hh : xs.all (textB 60) with
            | false => rfl
            | true =>
              have : xs.all isStrP = true := List.all_eq_true.mpr fun x hx => by
                have := List.all_eq_true.mp hh x hx
                cases x <;> first | rfl | exact this
              rw [this] at ha
              cases ha
          exact this.symm
        · rename_i ha
          have ha' : xs.all isStrP = true := by simpa using ha
          obtain ⟨zs, rfl⟩ := str_all ha'
          refine ⟨fr, WS_for_inv (LI zs) ⟨none, none, none, zs, rfl, .non, .non, .non, rfl, (fun _ h => h), rfl⟩ ?_ ?_⟩
          · rintro x r env ⟨a, b, c, us, rfl, ha, hb, hc, e, hu, hq⟩
            cases us with
            | nil => cases e
            | cons u us =>
              cases e
              have su := hs _ rfl u (List.mem_map.mpr ⟨u, hu u List.mem_cons_self, rfl⟩)
              have ucap : u.cps.toList.length < CAP := Nat.lt_of_le_of_lt su.1 (by decide)
              rw [ha.g rfl]
              (try trivial)
              refine ⟨ucap, WL_map1 (fun x => .int (cdP x : Nat)) [some (Kd.bor, PV.tup (zs.map PV.str)), some (Kd.own, PV.str u), b, c, none, none] rfl (fun x hx => ?_) ?_⟩
              · obtain ⟨d, _, rfl⟩ := List.mem_map.mp hx
                (try trivial)
              · trivial
                rw [hb.set, List.map_map, show ((fun x => PV.int (cdP x : Nat)) ∘ fun c => PV.str ⟨#[c]⟩) = fun c : Nat => PV.int (c : Int) from rfl]
                refine ⟨ucap, WL_map (fun x => !signB (inI x).toNat) id [some (Kd.bor, PV.tup (zs.map PV.str)), some (Kd.own, PV.str u), some (.own, .lst false (u.cps.toList.map (fun c : Nat => PV.int (c : Int)))), c, none, none] rfl (fun x hx => ?_) ?_⟩
                · obtain ⟨d, _, rfl⟩ := List.mem_map.mp hx
                  (try trivial)
                  have o := odd_ok d
                  have e : (inI (PV.int (d : Int))).toNat = d := rfl
                  rw [e, ← o]
                  by_cases h32 : 32 ≤ (d : Int) <;> by_cases h126 : (d : Int) ≤ 126 <;> simp [h32, h126]
                · (try trivial)
                  rw [hc.set]
                  (try trivial)
                  have em : List.map id (List.filter (fun x => !signB (inI x).toNat) (List.map (fun c : Nat => PV.int (c : Int)) u.cps.toList)) = (u.cps.toList.filter fun c => !signB c).map fun c : Nat => PV.int (c : Int) := by
                    rw [List.map_id, List.filter_map]
                    rfl
                  have al : (zs.map PV.str).all (textB 60) = (textB 60 (.str u) && us.all fun z => textB 60 (.str z)) := by
                    rw [List.all_map]
                    exact hq
                  rw [em, WB_eqL0 (n := 0) (w := 2000) (fun x hx => by
                    obtain ⟨c, hc, rfl⟩ := List.mem_map.mp hx
                    exact Dat.nat (Nat.lt_trans (su.2 c (List.mem_filter.mp hc).1) (by decide))) (by decide), al]
                  refine ⟨Nat.le_trans su.1 (by decide), ?_⟩
                  have tb : textB 60 (.str u) = (u.cps.toList.all signB && decide ((u.length : Int) ≤ 60)) := rfl
                  by_cases hl60 : 60 < (u.length : Int)
                  · rw [if_pos hl60, tb, decide_eq_false (show ¬ (u.length : Int) ≤ 60 by omega)]
                    simp
                  · rw [if_neg hl60, tb, decide_eq_true (show (u.length : Int) ≤ 60 by omega), Bool.and_true]
                    have ie : ((u.cps.toList.filter fun c => !signB c).map fun c : Nat => PV.int (c : Int)).isEmpty = u.cps.toList.all signB := by
                      rw [List.isEmpty_map]
                      generalize u.cps.toList = l
                      induction l with
                      | nil => rfl
                      | cons c l ih =>
                        cases hb : signB c <;> simp [hb, ← ih]
                    rw [ie]
                    by_cases ha : u.cps.toList.all signB = true
                    · rw [ha]
                      refine (if_neg (by decide)).mpr ⟨_, _, _, us, rfl, .own, .own, .own, rfl, (fun z hz => hu z (List.mem_cons_of_mem _ hz)), ?_⟩
                      rw [hq]
                      show (textB 60 (.str u) && us.all fun z => textB 60 (.str z)) = _
                      rw [tb, ha, decide_eq_true (show (u.length : Int) ≤ 60 by omega)]
                      simp
                    · rw [Bool.not_eq_true] at ha
                      rw [ha]
                      simp
          · rintro env ⟨a, b, c, us, rfl, ha, hb, hc, e, hu, hq⟩
            (try trivial)
            cases us with
            | nil =>
              rw [List.all_map]
              exact hq.symm
            | cons u us => cases e
  all_goals
    (try trivial)
    rfl

/-! ### what the law draws -/
theorem Sh.all {n : Nat} {z : Str} (h : z.length ≤ n) (k : z.cps.toList.all (· < 128) = true) : Sh n z := ⟨h, fun c hc => by simpa using List.all_eq_true.mp k c hc⟩
theorem mul01 {n : Nat} {z : Str} {b : Prop} [Decidable b] (h : Sh n z) : Sh n (Txt.mul z (if b then 1 else 0)) := by
  by_cases hb : b
  · rw [if_pos hb]; exact h
  · rw [if_neg hb]; exact ⟨Nat.zero_le _, fun c hc => nomatch hc⟩
theorem line_ok {k : Nat} {p : PV} (h : Pn (k + 3) p) : WD (d__law_line [p]) (fun x os => ∃ z p', x = .str z ∧ os = [p'] ∧ Sh 300 z ∧ Pn k p') XN := by
  have w9 : Sh 81 (Txt.mul ("word and " : Str) 9) := Sh.all (by decide +kernel) (by decide +kernel)
  have m9 : Sh 81 (Txt.mul ("more {n} " : Str) 9) := Sh.all (by decide +kernel) (by decide +kernel)
  have sg : Sh 93 (" !\"#$&'()*+,-./0123456789:;<=>?@ABCDEFGHIJKLMNOPQRSTUVWXYZ[]^_`abcdefghijklmnopqrstuvwxyz{|}~" : Str) := Sh.all (by decide +kernel) (by decide +kernel)
  have sl : (" !\"#$&'()*+,-./0123456789:;<=>?@ABCDEFGHIJKLMNOPQRSTUVWXYZ[]^_`abcdefghijklmnopqrstuvwxyz{|}~" : Str).length = 93 := by decide +kernel
  have l1 : ("word and " : Str).length = 9 := by decide +kernel
  have l2 : ("more {n} " : Str).length = 9 := by decide +kernel
  unfold d__law_line m__law_line
  (try trivial)
  generalize (" !\"#$&'()*+,-./0123456789:;<=>?@ABCDEFGHIJKLMNOPQRSTUVWXYZ[]^_`abcdefghijklmnopqrstuvwxyz{|}~" : Str) = S at *
  rw [sl]
  refine ⟨by decide, ?_⟩
  refine (draw_ok h (by first | decide | omega) (by first | decide | omega)).mono ?_ (fun _ _ _ qq => qq.elim)
  rintro _ _ ⟨v, q, rfl, rfl, v0, v1, hq⟩
  (try trivial)
  refine ⟨by rw [sl]; decide, WO_at v0 (by show v < (S.length : Int); omega) fun c hc _ => ?_⟩
  have oc := sg.sign hc
  (try trivial)
  refine (draw_ok hq (by first | decide | omega) (by first | decide | omega)).mono ?_ (fun _ _ _ qq => qq.elim)
  rintro _ _ ⟨w, q2, rfl, rfl, w0, w1, hq2⟩
  (try trivial)
  refine WO_at w0 (by simpa using w1) fun y hy _ => ?_
  have hy : ∃ i, y = .int i ∧ 0 ≤ i ∧ i ≤ 61 := by
    simp only [List.mem_cons, List.not_mem_nil, or_false] at hy
    rcases hy with rfl | rfl | rfl | rfl | rfl | rfl <;> exact ⟨_, rfl, by omega, by omega⟩
  obtain ⟨i, rfl, i0, i1⟩ := hy
  (try trivial)
  refine (draw_ok hq2 (by first | decide | omega) (by first | decide | omega)).mono ?_ (fun _ _ _ qq => qq.elim)
  rintro _ _ ⟨u, q3, rfl, rfl, u0, u1, hq3⟩
  (try trivial)
  have a1 := w9.cut (lo := none) (hi := some u)
  have a2 := mul01 (b := 0 < i) oc
  have a3 := m9.cut (lo := none) (hi := some (max (i - u - 1) 0))
  have a4 := (a1.app a2).app a3
  have cp : CAP = 16777216 := rfl
  have g0 : (0 : Int) ≤ (if 0 < i then 1 else 0) := by split <;> decide
  have g1 : (if 0 < i then (1 : Int) else 0) ≤ 1000 := by split <;> decide
  have b1 := a1.1
  have b2 := a2.1
  have b3 := a3.1
  have b4 := (a1.app a2).1
  refine ⟨by rw [l1]; decide, Nat.le_trans w9.1 (by decide), ⟨Nat.le_trans oc.1 (by decide), g0, g1⟩, by omega, by rw [l2]; decide, Nat.le_trans m9.1 (by decide), by omega, a4.le (by decide), hq3⟩
/-- a thing in a tuple of lines -/
inductive Itm : PV → Prop where
  | str {z : Str} (h : Sh 400 z) : Itm (.str z)
  | non : Itm .non
  | int : Itm (.int 5)
  | bl : Itm (.bl true)
  | lst {z : Str} (h : Sh 400 z) : Itm (.lst false [.str z])
  | tup {z : Str} (h : Sh 400 z) : Itm (.tup [.str z])
theorem Itm.sane {x : PV} (h : Itm x) : x.sane = true := by
  cases h with
  | str h => exact sane_str.mpr (Nat.le_trans h.1 (by decide))
  | non => rfl
  | int => rfl
  | bl => rfl
  | lst h => exact sane_lst.mpr ⟨rfl, fun y hy => by rw [List.mem_singleton.mp hy]; exact sane_str.mpr (Nat.le_trans h.1 (by decide)), by simp⟩
  | tup h => exact sane_tup.mpr ⟨fun y hy => by rw [List.mem_singleton.mp hy]; exact sane_str.mpr (Nat.le_trans h.1 (by decide)), by simp⟩
theorem Itm.dat {x : PV} (h : Itm x) : Dat 1 2000 x := by
  cases h with
  | str h => exact .str h (by decide)
  | non => exact .non
  | int => exact Dat.nat (c := 5) (by decide)
  | bl => exact .bl
  | lst h => exact Dat.lst (m := 1) (fun y hy => by rw [List.mem_singleton.mp hy]; exact Dat.str (n := 0) (w := 400) h (by decide)) (by simp) (by decide)
  | tup h => exact Dat.tup (m := 1) (fun y hy => by rw [List.mem_singleton.mp hy]; exact Dat.str (n := 0) (w := 400) h (by decide)) (by simp) (by decide)
structure Thing (x : PV) : Prop where
  sane : x.sane = true
  rp : Rp x
  sh : ∀ xs, x = .tup xs → ∀ z, PV.str z ∈ xs → Sh 900 z
theorem itm_tup {xs : List PV} (h : ∀ x ∈ xs, Itm x) (l : xs.length ≤ 20) : Thing (.tup xs) := ⟨sane_tup.mpr ⟨fun y hy => (h y hy).sane, by omega⟩, (Dat.tup (v := 1048576) (m := 20) (fun y hy => (h y hy).dat) l (by decide)).rp (by decide) (by decide) (.inl ⟨_, rfl⟩), fun ys e z hz => by
  cases e
  have q := h _ hz
  cases q with
  | str h => exact h.le (by decide)⟩
theorem itm_lst {xs : List PV} (h : ∀ x ∈ xs, Itm x) (l : xs.length ≤ 20) : Thing (.lst false xs) := ⟨sane_lst.mpr ⟨rfl, fun y hy => (h y hy).sane, by omega⟩, (Dat.lst (v := 1048576) (m := 20) (fun y hy => (h y hy).dat) l (by decide)).rp (by decide) (by decide) (.inr (.inl ⟨_, _, rfl⟩)), fun ys e z hz => by cases e⟩
theorem itm_str {z : Str} (h : Sh 400 z) : Thing (.str z) := ⟨sane_str.mpr (Nat.le_trans h.1 (by decide)), (Dat.str (n := 0) (w := 400) h (by decide)).rp (by decide) (by decide) (.inr (.inr ⟨_, rfl⟩)), fun ys e z hz => by cases e⟩
theorem itm_non : Thing .non := ⟨rfl, rp_non, fun ys e z hz => by cases e⟩
def TJ (k : Nat) (n : Nat) (e : Ev.Env) : Prop := ∃ q, e = [some (Kd.io, q), none, none, none, none, none, none] ∧ Pn (k + 3 * n) q
theorem thing_ok {k : Nat} {p : PV} (h : Pn (k + 60) p) : WD (d__law_thing [p]) (fun x os => ∃ p', os = [p'] ∧ Thing x ∧ Pn k p') XN := by
  unfold d__law_thing m__law_thing
  (try trivial)
  refine (draw_ok h (by first | decide | omega) (by first | decide | omega)).mono ?_ (fun _ _ _ qq => qq.elim)
  rintro _ _ ⟨v, q, rfl, rfl, v0, v1, hq⟩
  (try trivial)
  refine (draw_ok hq (by first | decide | omega) (by first | decide | omega)).mono ?_ (fun _ _ _ qq => qq.elim)
  rintro _ _ ⟨w, q2, rfl, rfl, w0, w1, hq2⟩
  (try trivial)
  refine WO_at w0 (by simpa using w1) fun y hy _ => ?_
  have hy : ∃ i, y = .int i ∧ 0 ≤ i ∧ i ≤ 13 := by
    simp only [List.mem_cons, List.not_mem_nil, or_false] at hy
    rcases hy with rfl | rfl | rfl <;> exact ⟨_, rfl, by omega, by omega⟩
  obtain ⟨i, rfl, i0, i1⟩ := hy
  (try trivial)
  have rl : (rng 0 i.toNat).length = i.toNat := by simp [rng]
  refine ⟨by omega, by rw [rl]; show i.toNat < 16777216; omega, WL_acc1 (TJ (k + 10)) (fun _ y => ∃ z, y = .str z ∧ Sh 300 z) ⟨q2, rfl, hq2.less (by rw [rl]; omega)⟩ ?_ ?_⟩
  · rintro x n _ hx ⟨q, rfl, hq⟩
    (try trivial)
    refine (line_ok (k := k + 10 + 3 * n) (hq.less (by omega))).mono ?_ (fun _ _ _ qq => qq.elim)
    rintro _ _ ⟨z, q3, rfl, rfl, hz, hq3⟩
    (try trivial)
    exact ⟨hz, q3, rfl, hq3⟩
  · rintro l _ hl ⟨q, rfl, hq⟩
    have ll : l.length ≤ 13 := by rw [← hl.len, rl]; omega
    obtain ⟨zs, rfl, hz⟩ : ∃ zs : List Str, l = zs.map .str ∧ ∀ z ∈ zs, Sh 300 z := by
      clear ll
      generalize rng 0 i.toNat = is at hl
      induction hl with
      | nil => exact ⟨[], rfl, fun z hz => nomatch hz⟩
      | cons h _ ih =>
        obtain ⟨z, rfl, hz⟩ := h
        obtain ⟨zs, rfl, hh⟩ := ih
        exact ⟨z :: zs, rfl, fun y hy => by
          rcases List.mem_cons.mp hy with rfl | hy
          · exact hz
          · exact hh y hy⟩
    clear hl
    rw [List.length_map] at ll
    have it : ∀ x ∈ zs.map PV.str, Itm x := fun x hx => by
      obtain ⟨z, hz', rfl⟩ := List.mem_map.mp hx
      exact .str ((hz z hz').le (by decide))
    (try trivial)
    have zl : (zs.map PV.str).length ≤ 13 := by rw [List.length_map]; exact ll
    split
    · refine (draw_ok hq (by first | decide | omega) (by first | decide | omega)).mono ?_ (fun _ _ _ qq => qq.elim)
      rintro _ _ ⟨u, q5, rfl, rfl, u0, u1, hq5⟩
      (try trivial)
      refine WO_at u0 (by simpa using u1) fun y hy _ => ?_
      have hy : Thing y := by
        simp only [List.mem_cons, List.not_mem_nil, or_false] at hy
        rcases hy with rfl | rfl | rfl | rfl | rfl
        · exact itm_tup it (by omega)
        · exact itm_lst (fun x hx => nomatch hx) (by decide)
        · exact itm_non
        · exact itm_str ⟨by decide +kernel, fun c hc => by cases hc⟩
        · exact itm_tup (fun x hx => by rw [List.mem_singleton.mp hx]; exact .str ⟨by decide +kernel, fun c hc => by cases hc⟩) (by decide)
      (try trivial)
      exact ⟨sane_free hy.sane, hy, hq5.less (by omega)⟩
    · rename_i hn
      have hn : 1 ≤ zs.length := by
        simp at hn
        cases zs with
        | nil => exact absurd rfl hn
        | cons => simp
      refine (draw_ok hq (by first | decide | omega) (by first | decide | omega)).mono ?_ (fun _ _ _ qq => qq.elim)
      rintro _ _ ⟨u, q5, rfl, rfl, u0, u1, hq5⟩
      (try trivial)
      refine (draw_ok hq5 (by first | decide | omega) (by first | decide | omega)).mono ?_ (fun _ _ _ qq => qq.elim)
      rintro _ _ ⟨t, q6, rfl, rfl, t0, t1, hq6⟩
      (try trivial)
      have bl : (("\n\t\\" : Str)).cps.toList = [10, 9, 92] := by decide +kernel
      obtain ⟨z, zm, ez⟩ : ∃ z ∈ zs, atI (zs.map PV.str) u = some (.str z) := by
        have hl : u.toNat < zs.length := by omega
        refine ⟨zs[u.toNat], List.getElem_mem hl, ?_⟩
        rw [atI_pos u0, List.getElem?_map, List.getElem?_eq_getElem hl]; rfl
      have sz := hz z zm
      refine ⟨by decide +kernel, WO_at t0 (by rw [bl]; exact t1) fun c hc _ => ?_⟩
      rw [bl] at hc
      have oc : Sh 1 ⟨#[c]⟩ := ⟨Nat.le_refl _, fun d hd => by
        have : d = c := by simpa using hd
        subst this
        simp only [List.mem_cons, List.not_mem_nil, or_false] at hc
        omega⟩
      rw [ez]
      (try trivial)
      have tl : Sh 1 ("~" : Str) := Sh.all (by decide +kernel) (by decide +kernel)
      have s1 := ((sz.cut (lo := none) (hi := some 30)).app oc).app (sz.cut (lo := some 30) (hi := none))
      have s2 := sz.app tl
      have cp : CAP = 16777216 := rfl
      refine ⟨Nat.le_trans sz.1 (by decide), by have := ((sz.cut (lo := none) (hi := some 30)).app oc).1; rw [len_app] at this; omega, Nat.le_trans sz.1 (by decide), by have := s1.1; rw [len_app] at this; omega, by have := s2.1; rw [len_app] at this; omega, ?_⟩
      have l1 := ((sz.cut (lo := none) (hi := some 30)).app oc).app (sz.cut (lo := some 30) (hi := none))
      have s3 : ((cutS z none (some 30) ++ ⟨#[c]⟩) ++ cutS z (some 30) none).length ≤ 400 := by
        have a := cutS_length z none (some 30)
        have b := cutS_length z (some 30) none
        have l30 : (cutS z none (some 30)).length ≤ 30 := by
          show (((z.cps.toList.drop (HT.sIx z.length 0 none)).take (HT.sIx z.length z.length (some 30) - HT.sIx z.length 0 none)).toArray).size ≤ 30
          rw [List.size_toArray, List.length_take, HT.sIx_none, show (some (30 : Int)) = some ((30 : Nat) : Int) from rfl, HT.sIx_nat]
          omega
        have lz := sz.1
        rw [len_app, len_app]
        show _ + 1 + _ ≤ 400
        omega
      refine (draw_ok hq6 (by first | decide | omega) (by first | decide | omega)).mono ?_ (fun _ _ _ qq => qq.elim)
      rintro _ _ ⟨w3, q7, rfl, rfl, w30, w31, hq7⟩
      (try trivial)
      refine WO_at w30 (by simpa using w31) fun o ho _ => ?_
      have io : Itm o := by
        simp only [List.mem_cons, List.not_mem_nil, or_false] at ho
        rcases ho with rfl | rfl | rfl | rfl | rfl | rfl | rfl
        · exact .str ⟨s3, l1.2⟩
        · exact .non
        · exact .int
        · exact .bl
        · exact .lst (sz.le (by decide))
        · exact .tup (sz.le (by decide))
        · exact .str (s2.le (by decide))
      have of := sane_free io.sane
      have oz : o.frz = o := frz_free of
      rw [oz, of]
      have e1 : cutP (zs.map PV.str) none (some u) = (zs.map PV.str).take u.toNat := cut_hi u0
      have e2 : cutP (zs.map PV.str) (some (u + 1)) none = (zs.map PV.str).drop (u + 1).toNat := cut_lo (by omega)
      have fx : PV.frees (zs.map PV.str) = true := frees_strs
      have f1 : PV.frees ((zs.map PV.str).take u.toNat) = true := frees_take fx
      have f2 : PV.frees ((zs.map PV.str).drop (u + 1).toNat) = true := frees_drop fx
      have f3 : PV.frees ((zs.map PV.str).take u.toNat ++ [o]) = true := by rw [frees_appE, f1, frees_cons, of]; rfl
      have f4 : PV.frees ((zs.map PV.str).take u.toNat ++ [o] ++ (zs.map PV.str).drop (u + 1).toNat) = true := by rw [frees_appE, f3, f2]; rfl
      have f5 : PV.frees (zs.map PV.str ++ [PV.str ("" : Str)]) = true := by rw [frees_appE, fx]; rfl
      have ib : ∀ x ∈ (zs.map PV.str).take u.toNat ++ [o] ++ (zs.map PV.str).drop (u + 1).toNat, Itm x := fun x hx => by
        rcases List.mem_append.mp hx with hx | hx
        · rcases List.mem_append.mp hx with hx | hx
          · exact it x (List.mem_of_mem_take hx)
          · rw [List.mem_singleton.mp hx]; exact io
        · exact it x (List.mem_of_mem_drop hx)
      have lb : ((zs.map PV.str).take u.toNat ++ [o] ++ (zs.map PV.str).drop (u + 1).toNat).length ≤ 20 := by
        simp
        omega
      have tb := itm_tup ib lb
      have k1 := frzs_free f1
      have k2 := frzs_free f2
      have k3 := frzs_free f3
      have k4 := frzs_free f4
      have k5 := frzs_free f5
      rw [e1, e2]
      simp only [k1, k2, k3, k4, f1, f2, f3, f4, ez, if_true, true_and]
      (try trivial)
      (try simp only [k1, k2, k3, k4, f1, f2, f3, f4, ez, if_true, true_and])
      have lz : zs.length ≤ 13 := ll
      refine ⟨by simp; omega, by simp; omega, ?_⟩
      (try trivial)
      refine ⟨by omega, ?_⟩
      refine (draw_ok hq7 (by first | decide | omega) (by first | decide | omega)).mono ?_ (fun _ _ _ qq => qq.elim)
      rintro _ _ ⟨w4, q8, rfl, rfl, w40, w41, hq8⟩
      (try trivial)
      refine WO_at w40 (by simpa using w41) fun y hy _ => ?_
      have hy : Thing y := by
        simp only [List.mem_cons, List.not_mem_nil, or_false] at hy
        rcases hy with rfl | rfl | rfl | rfl | rfl | rfl | rfl
        · exact itm_tup it (by omega)
        · exact itm_tup it (by omega)
        · rw [k4]; exact tb
        · rw [k4]; exact tb
        · exact itm_lst it (by omega)
        · exact itm_str (sz.le (by decide))
        · rw [k5]
          exact itm_tup (fun x hx => by
            rcases List.mem_append.mp hx with hx | hx
            · exact it x hx
            · rw [List.mem_singleton.mp hx]; exact .str ⟨by decide +kernel, fun c hc => by cases hc⟩) (by simp; omega)
      (try trivial)
      exact ⟨sane_free hy.sane, hy, hq8.less (by omega)⟩

theorem pen_ok {ns : List Int} (h : ns.length ≤ 63) : WD (d__law_pen [script ns]) (fun x os => os = [] ∧ Pn (2 ^ 61) x) XN := by
  unfold d__law_pen m__law_pen script
  (try trivial)
  have e : cutP (ns.map PV.int) none (some 63) = ns.map PV.int := by
    rw [cut_hi (by omega)]
    exact List.take_of_length_le (by rw [List.length_map]; exact h)
  rw [e]
  (try trivial)
  exact ⟨ns, 0, 0, rfl, by omega, by decide, by omega, h⟩
def LJ (x : PV) (r : List PV) (e : Ev.Env) : Prop := ∃ p a b c d, e = [some (.bor, x), some (.own, p), a, b, c, d] ∧ Own a ∧ Own b ∧ Own c ∧ Own d ∧ Pn (100 * r.length) p
theorem den_law : ∀ ns : List Int, ns.length ≤ 63 → d_law [script ns] = .ok (.bl true) [] := fun ns hn => WD.eq <| by
  unfold d_law m_law
  (try trivial)
  refine (pen_ok hn).mono ?_ (fun _ _ _ q => q.elim)
  rintro p _ ⟨rfl, hp⟩
  (try trivial)
  refine (draw_ok hp (by first | decide | omega) (by first | decide | omega)).mono ?_ (fun _ _ _ qq => qq.elim)
  rintro _ _ ⟨v, q, rfl, rfl, v0, v1, hq⟩
  (try trivial)
  have rl : (rng 0 (5 + v).toNat).length = (5 + v).toNat := by simp [rng]
  refine ⟨⟨by omega, by omega⟩, WS_for_inv (LJ (script ns)) ⟨q, none, none, none, none, rfl, .non, .non, .non, .non, hq.less (by rw [rl]; omega)⟩ ?_ ?_⟩
  · rintro x r env ⟨p, a, b, c, d, rfl, ha, hb, hc, hd, hp⟩
    rw [ha.g rfl]
    (try trivial)
    refine (thing_ok (k := 100 * r.length) (hp.less (by simp; omega))).mono ?_ (fun _ _ _ q => q.elim)
    rintro y _ ⟨p', rfl, hy, hp'⟩
    obtain ⟨z, ez⟩ := hy.rp
    (try trivial)
    rw [hb.set]
    (try trivial)
    have fy := sane_free hy.sane
    have zy := sane_frz hy.sane
    rw [ez]
    (try trivial)
    rw [hc.set]
    (try trivial)
    rw [lines_eq hy.sane]
    (try trivial)
    rw [hd.set]
    (try trivial)
    rw [law_is_eq hy.sane hy.sh]
    (try trivial)
    rw [if_neg (by simp), ez]
    (try trivial)
    rw [if_neg (by simp)]
    exact ⟨p', _, _, _, _, rfl, .own, .own, .own, .own, hp'⟩
  · rintro env ⟨p, a, b, c, d, rfl, ha, hb, hc, hd, hp⟩
    (try trivial)
    rw [lines_eq (by decide)]
    (try trivial)
    rw [if_pos (by decide), lines_eq (by decide +kernel)]
    (try trivial)
    decide +kernel

end
/-! ### the head -/
def dOf (x : Str) (st : Stmt) : He.DefD := ⟨(x, none), x, x, defArgs st, defBody st, defScope st, [], []⟩
def fn : List He.DefD := [dOf "_law_pen" slaw_pen, dOf "_law_draw" slaw_draw, dOf "_law_line" slaw_line, dOf "_law_thing" slaw_thing, dOf "is_tuple_within" sis_tuple_within, dOf "is_sign" sis_sign, dOf "is_plain" sis_plain, dOf "is_text" sis_text, dOf "is_line" sis_line, dOf "is_lines" sis_lines, dOf "_law_is" slaw_is, dOf "law" slaw]
def fa : List He.Fa := [.glo "_law_pen", .glo "_law_draw", .glo "_law_line", .glo "_law_thing", .glo "is_tuple_within", .glo "is_sign", .glo "is_plain", .glo "is_text", .glo "is_line", .glo "is_lines", .glo "_law_is", .glo "law", .free "all", .free "bool", .free "int", .free "isinstance", .free "len", .free "list", .free "max", .free "ord", .free "range", .free "repr", .free "str", .free "tuple", .glo "BARRED_CODES", .int "LONGEST_LINE" (60), .int "MOST_LINES" (12)]
def tf : List He.Defn := [("is_plain", none), ("is_lines", none)]
def ex : PySem.W.Frag → Bool := fun K => (He.tupB K "BARRED_CODES" [(.int 37), (.int 92)] && true)
def ts : List He.Tab := []
abbrev R : PySem.W.OpenRow := PySem.W.OpenLaw.row PySem.Challenge.rw_mastershow_k03_what_are_lines
abbrev hk : PySem.W.Hook := He.hookX 4 fa fn ts tf ex
def ob (s : PySem.W.SharedT) : He.AlX := He.obsX 4 fa fn ts tf ex (HandSHeadRun.getT s)
theorem ob_eq (s : PySem.W.SharedT) : ob s = hk.obs s.abs := He.obsX_eq (HandSHeadRun.getT_eq s)
theorem run (w : World) : HandSHeadRun.RunEq R (PySem.W.view R.prog [17]) hk ob 20000 ["is_tuple_within", "BARRED_CODES", "LONGEST_LINE", "MOST_LINES", "is_sign", "is_plain", "is_text", "is_line", "is_lines", "_law_pen", "_law_draw", "_law_is", "_law_line", "_law_thing"] w := by
  intro os
  kernel_rfl
theorem dnS {P : Program} {w : World} {K : PySem.W.Frag} {mg : Str → Option Value} {base : Heap} {k : Nat} {x : Str} {ps : List Str} {sp : Sp} {st : Stmt} {fd : FuncData} (F : FnP K x st (He.fAd K (x, none)) fd) (hm : mg x = some (.ref (He.ga K x)))
    (b : Binds K fd ps []) (h : FnOk P w K mg base (L2.CX P w) k (He.fAd K (x, none)) fd ps sp) : Gc.DnS P w K mg base k x ps sp := ⟨_, fd, hm, F.kp, b, h⟩
theorem facts {w : World} {K : PySem.W.Frag} {h : Heap} {mg : Str → Option Value} {f : Addr} (X : K.In h) (G : h.Ns mainGlobals mg) (hfa : mg ("law" : Str) = some (.ref f)) (c : He.SaysX fa fn ts tf ex w h K) :
    Gr.LawG PySem.Challenge.rw_mastershow_k03_what_are_lines w K 8 63 "script" mg f h := by
  have cd := c.t.d
  obtain ⟨fd0, F0⟩ := cd.def_ 0 (d := dOf "_law_pen" slaw_pen) rfl
  have F0 : FnP K "_law_pen" slaw_pen (He.fAd K ("_law_pen", none)) fd0 := F0
  obtain ⟨fd1, F1⟩ := cd.def_ 1 (d := dOf "_law_draw" slaw_draw) rfl
  have F1 : FnP K "_law_draw" slaw_draw (He.fAd K ("_law_draw", none)) fd1 := F1
  obtain ⟨fd2, F2⟩ := cd.def_ 2 (d := dOf "_law_line" slaw_line) rfl
  have F2 : FnP K "_law_line" slaw_line (He.fAd K ("_law_line", none)) fd2 := F2
  obtain ⟨fd3, F3⟩ := cd.def_ 3 (d := dOf "_law_thing" slaw_thing) rfl
  have F3 : FnP K "_law_thing" slaw_thing (He.fAd K ("_law_thing", none)) fd3 := F3
  obtain ⟨fd4, F4⟩ := cd.def_ 4 (d := dOf "is_tuple_within" sis_tuple_within) rfl
  have F4 : FnP K "is_tuple_within" sis_tuple_within (He.fAd K ("is_tuple_within", none)) fd4 := F4
  obtain ⟨fd5, F5⟩ := cd.def_ 5 (d := dOf "is_sign" sis_sign) rfl
  have F5 : FnP K "is_sign" sis_sign (He.fAd K ("is_sign", none)) fd5 := F5
  obtain ⟨fd6, F6⟩ := cd.def_ 6 (d := dOf "is_plain" sis_plain) rfl
  have F6 : FnP K "is_plain" sis_plain (He.fAd K ("is_plain", none)) fd6 := F6
  obtain ⟨fd7, F7⟩ := cd.def_ 7 (d := dOf "is_text" sis_text) rfl
  have F7 : FnP K "is_text" sis_text (He.fAd K ("is_text", none)) fd7 := F7
  obtain ⟨fd8, F8⟩ := cd.def_ 8 (d := dOf "is_line" sis_line) rfl
  have F8 : FnP K "is_line" sis_line (He.fAd K ("is_line", none)) fd8 := F8
  obtain ⟨fd9, F9⟩ := cd.def_ 9 (d := dOf "is_lines" sis_lines) rfl
  have F9 : FnP K "is_lines" sis_lines (He.fAd K ("is_lines", none)) fd9 := F9
  obtain ⟨fd10, F10⟩ := cd.def_ 10 (d := dOf "_law_is" slaw_is) rfl
  have F10 : FnP K "_law_is" slaw_is (He.fAd K ("_law_is", none)) fd10 := F10
  obtain ⟨fd11, F11⟩ := cd.def_ 11 (d := dOf "law" slaw) rfl
  have F11 : FnP K "law" slaw (He.fAd K ("law", none)) fd11 := F11
  have e := hfa.symm.trans (He.glo_ok X G (cd.fact 11 (f := .glo "law") rfl))
  cases e
  have mo := c.more
  unfold ex at mo
  simp only [Bool.and_eq_true] at mo
  obtain ⟨x0, _⟩ := mo
  have T : Tx K w mg := ⟨He.free_ok X G (cd.fact 12 (f := .free "all") rfl),
    He.free_ok X G (cd.fact 13 (f := .free "bool") rfl),
    He.free_ok X G (cd.fact 14 (f := .free "int") rfl),
    He.free_ok X G (cd.fact 15 (f := .free "isinstance") rfl),
    He.free_ok X G (cd.fact 16 (f := .free "len") rfl),
    He.free_ok X G (cd.fact 17 (f := .free "list") rfl),
    He.free_ok X G (cd.fact 18 (f := .free "max") rfl),
    He.free_ok X G (cd.fact 19 (f := .free "ord") rfl),
    He.free_ok X G (cd.fact 20 (f := .free "range") rfl),
    He.free_ok X G (cd.fact 21 (f := .free "repr") rfl),
    He.free_ok X G (cd.fact 22 (f := .free "str") rfl),
    He.free_ok X G (cd.fact 23 (f := .free "tuple") rfl),
    (GlP.ints (zs := [37, 92]) x0 (He.glo_ok X G (cd.fact 24 (f := .glo "BARRED_CODES") rfl))),
    (GlP.ofInt (He.int_ok X G (cd.fact 25 (f := .int "LONGEST_LINE" (60)) rfl))),
    (GlP.ofInt (He.int_ok X G (cd.fact 26 (f := .int "MOST_LINES" (12)) rfl)))⟩
  have b0 := F0.bindsN (ps := ["script"]) fun _ _ _ _ _ _ us hl => match us, hl with | [_], _ => rfl
  have b1 := F1.bindsN (ps := ["pen", "many"]) fun _ _ _ _ _ _ us hl => match us, hl with | [_, _], _ => rfl
  have b2 := F2.bindsN (ps := ["pen"]) fun _ _ _ _ _ _ us hl => match us, hl with | [_], _ => rfl
  have b3 := F3.bindsN (ps := ["pen"]) fun _ _ _ _ _ _ us hl => match us, hl with | [_], _ => rfl
  have b4 := F4.bindsN (ps := ["thing", "least", "most"]) fun _ _ _ _ _ _ us hl => match us, hl with | [_, _, _], _ => rfl
  have b5 := F5.bindsN (ps := ["sign"]) fun _ _ _ _ _ _ us hl => match us, hl with | [_], _ => rfl
  have b6 := F6.bindsN (ps := ["thing"]) fun _ _ _ _ _ _ us hl => match us, hl with | [_], _ => rfl
  have b7 := F7.bindsN (ps := ["thing", "longest"]) fun _ _ _ _ _ _ us hl => match us, hl with | [_, _], _ => rfl
  have b8 := F8.bindsN (ps := ["thing"]) fun _ _ _ _ _ _ us hl => match us, hl with | [_], _ => rfl
  have b9 := F9.bindsN (ps := ["thing"]) fun _ _ _ _ _ _ us hl => match us, hl with | [_], _ => rfl
  have b10 := F10.bindsN (ps := ["thing"]) fun _ _ _ _ _ _ us hl => match us, hl with | [_], _ => rfl
  have b11 := FunD.bindsA (ps := ["script"]) F11 fun _ _ _ _ _ _ us hl => match us, hl with | [_], _ => rfl
  refine ⟨fd11, [He.cT K ("is_plain", none), He.cT K ("is_lines", none)], spG K (TBs K) mg [false] d_law, ?_, ?_, ?_, fun s v => b11 s [v] rfl, ?_, ?_⟩
  · intro p hp
    obtain ⟨d, hd, rfl⟩ := (List.mem_map.mp (show p ∈ tf.map (fun d => He.cT K d) from hp))
    exact c.empty d hd
  · intro p hp
    obtain ⟨d, hd, rfl⟩ := (List.mem_map.mp (show p ∈ tf.map (fun d => He.cT K d) from hp))
    exact c.out d hd
  · intro p hp
    obtain ⟨d, hd, rfl⟩ := (List.mem_map.mp (show p ∈ tf.map (fun d => He.cT K d) from hp))
    exact PySem.W.codeHd_of_K X (c.hd d hd)
  · intro H a ns hl hT hS
    refine law_sp (den_law ns hl) (fun t ht => ?_) hS
    have e : TBs K = (tf.map fun d => He.cT K d).map (·.2) := rfl
    rw [e] at ht
    obtain ⟨p, hp, rfl⟩ := List.mem_map.mp ht
    exact ⟨#[], hT p hp, (by first | exact triples_nil | simp [TriplesOk])⟩
  · intro base _ _ hB
    have B0 := hB _ (List.mem_cons_self)
    have T0 : GxR.TabB base mg (He.codeOf K ("is_plain", none)) (tb_is_plain K) := ⟨B0.code, B0.bm, B0.gP⟩
    have M0 : tb_is_plain K ∈ TBs K := (List.mem_cons_self)
    have B1 := hB _ (List.mem_cons_of_mem _ (List.mem_cons_self))
    have T1 : GxR.TabB base mg (He.codeOf K ("is_lines", none)) (tb_is_lines K) := ⟨B1.code, B1.bm, B1.gP⟩
    have M1 : tb_is_lines K ∈ TBs K := (List.mem_cons_of_mem _ (List.mem_cons_self))
    have D0 := dnS F0 (He.glo_ok X G (cd.fact 0 (f := .glo "_law_pen") rfl)) b0 (ok_law_pen (P := (PySem.Challenge.rw_mastershow_k03_what_are_lines).prog) (w := w) (base := base) F0 T )
    have D1 := dnS F1 (He.glo_ok X G (cd.fact 1 (f := .glo "_law_draw") rfl)) b1 (ok_law_draw (P := (PySem.Challenge.rw_mastershow_k03_what_are_lines).prog) (w := w) (base := base) F1 T )
    have D2 := dnS F2 (He.glo_ok X G (cd.fact 2 (f := .glo "_law_line") rfl)) b2 (ok_law_line (P := (PySem.Challenge.rw_mastershow_k03_what_are_lines).prog) (w := w) (base := base) F2 T D1)
    have D3 := dnS F3 (He.glo_ok X G (cd.fact 3 (f := .glo "_law_thing") rfl)) b3 (ok_law_thing (P := (PySem.Challenge.rw_mastershow_k03_what_are_lines).prog) (w := w) (base := base) F3 T D1 D2)
    have D4 := dnS F4 (He.glo_ok X G (cd.fact 4 (f := .glo "is_tuple_within") rfl)) b4 (ok_is_tuple_within (P := (PySem.Challenge.rw_mastershow_k03_what_are_lines).prog) (w := w) (base := base) F4 T )
    have D5 := dnS F5 (He.glo_ok X G (cd.fact 5 (f := .glo "is_sign") rfl)) b5 (ok_is_sign (P := (PySem.Challenge.rw_mastershow_k03_what_are_lines).prog) (w := w) (base := base) F5 T )
    have D6 := dnS F6 (He.glo_ok X G (cd.fact 6 (f := .glo "is_plain") rfl)) b6 (ok_is_plain (P := (PySem.Challenge.rw_mastershow_k03_what_are_lines).prog) (w := w) (base := base) F6 T T0 M0 D5)
    have D7 := dnS F7 (He.glo_ok X G (cd.fact 7 (f := .glo "is_text") rfl)) b7 (ok_is_text (P := (PySem.Challenge.rw_mastershow_k03_what_are_lines).prog) (w := w) (base := base) F7 T D6)
    have D8 := dnS F8 (He.glo_ok X G (cd.fact 8 (f := .glo "is_line") rfl)) b8 (ok_is_line (P := (PySem.Challenge.rw_mastershow_k03_what_are_lines).prog) (w := w) (base := base) F8 T D7)
    have D9 := dnS F9 (He.glo_ok X G (cd.fact 9 (f := .glo "is_lines") rfl)) b9 (ok_is_lines (P := (PySem.Challenge.rw_mastershow_k03_what_are_lines).prog) (w := w) (base := base) F9 T T1 M1 D8 D4)
    have D10 := dnS F10 (He.glo_ok X G (cd.fact 10 (f := .glo "_law_is") rfl)) b10 (ok_law_is (P := (PySem.Challenge.rw_mastershow_k03_what_are_lines).prog) (w := w) (base := base) F10 T )
    exact ok_law (P := (PySem.Challenge.rw_mastershow_k03_what_are_lines).prog) (w := w) (base := base) F11 T D1 D10 D0 D3 D9
end K03
open PySem PySem.W PySem.Calls PyProof.Rows
set_option maxRecDepth 100000 in
set_option maxHeartbeats 0 in
theorem PySem.Challenge.cw_mastershow_k03_what_are_lines_holds : PySem.Challenge.rw_mastershow_k03_what_are_lines.Holds := by
  w_on; o_law
  refine HandSHeadRun.head_any (r := OpenLaw.row PySem.Challenge.rw_mastershow_k03_what_are_lines) (q := view (OpenLaw.row PySem.Challenge.rw_mastershow_k03_what_are_lines).prog [17]) (H := K03.hk) (ob := K03.ob) (M := 20000) (loose := ["is_tuple_within", "BARRED_CODES", "LONGEST_LINE", "MOST_LINES", "is_sign", "is_plain", "is_text", "is_line", "is_lines", "_law_pen", "_law_draw", "_law_is", "_law_line", "_law_thing"]) (d := HandSHeadRun.topDef (OpenLaw.row PySem.Challenge.rw_mastershow_k03_what_are_lines).prog 17) (kwd := []) K03.ob_eq
    (by kernel_rfl) (fun s => by kernel_rfl) K03.run (by kernel_rfl) (by kernel_rfl) (by kernel_rfl) (by rfl) (by first | assumption | decide +kernel) (by decide +kernel) ⟨rfl, rfl, rfl, rfl, rfl, by decide +kernel⟩ ?hw ?hc
  case hw => w_witness2
  case hc =>
    refine Gr.walkG (l := PySem.Challenge.rw_mastershow_k03_what_are_lines) (n := 63) (k := 8) (x := "script") rfl (by decide) (by kernel_rfl) ⟨rfl, by decide, by decide⟩ ?F
    intro w mg fa h Y G hmg0
    obtain ⟨K, KX, c⟩ := Y
    have hmg : mg ("law" : PySem.Str) = some (.ref fa) := by
      have e : (HandSHeadRun.topDef (OpenLaw.row PySem.Challenge.rw_mastershow_k03_what_are_lines).prog 17).name = ("law" : PySem.Str) := by kernel_rfl
      rw [← e]
      exact hmg0
    exact ⟨K, KX, K03.facts KX G hmg c⟩