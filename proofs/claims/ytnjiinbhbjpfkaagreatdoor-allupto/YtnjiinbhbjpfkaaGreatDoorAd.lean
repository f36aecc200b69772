import Derived.Test.YtnjiinbhbjpfkaaGreatDoorAa
import Derived.Test.YtnjiinbhbjpfkaaGreatDoorAW
set_option maxRecDepth 100000
set_option maxHeartbeats 0
set_option linter.all false
namespace Go.Proofs.YtnjiinbhbjpfkaaGreatDoor
open Go.RowKit Go.Proofs.Tryz
namespace F
variable {g:eM}{p:dH}{s:Pl}{t:Nat}{u:Int}{w:aa}
theorem JE{w1 w':aa}{x y gb W n:Nat}{l:List Nat}(h1:Tr p s g w (s.dA t) g w1)(hl:fQ s x y)(ht:ft s t)(G:¬(x=5/\y=t))(hn:l.length=n+1)(u:Ln w' (qp p g x y) (sk x y) (AM x) (DX x) (eE (Fs p (s.dA t) g x y) (sk x y)<|dD gb (n+1) W) (some<|az gb 0) (n+1) W (l.map g.tb))(J:Full w' (g.tb t) 160 7 7 (eE (eE (gH p (s.dA t) g t) 2<|.bool false) 3<|Pt (qp p g x y)<|sk x y))(Y:dN (λk=>k=qp p g x y\/k=g.tb t\/(Value.slice (g.ro x y).1 n (g.ro x y).2).ownBlock=some k) w1 w')(o:(Value.slice (g.ro x y).1 n (g.ro x y).2).ownBlock=some gb\/w1.heap.size<=gb):Tr p s g w (s.into x y t l) (g.at x y (some<|az gb 0,W)) w':=by
 have hn1:=gl s t;have i:=(gJ hn1).2 hl;refine h1.trans<|h1.r.line i ((eB hn1).2 ht) rfl (ak rfl) G ?_ ?_ ?_ ?_ ?_
 .rw[hn];exact u.hE
 .rw[hn];exact u.row
 .refine J.congr (λj hj=>sM (v:=((s.dA t).T t).to x y) i rfl G _ ?_ ?_ ?_ ?_ ?_ ?_ ?_ j hj)<;>rfl
 .grind[dJ,dN.mono]
 intro k H;have e:gb=k:=by injection H
 grind[dJ]
theorem ID{x y k:Nat}(h:dZ p s g w)(hW:LW s)(Y:fQ s x y)(ht:ft s t)(J:¬(x=5/\y=t))(a5:(s.T t).wh≠some (x,y))(W:k<=(s.q x y).length):eN 166 #[Pt (qp p g x y)<|sk x y,ah k,P0<|g.tb t] w λw'=>∃r,Tr p s g w (s.into x y t<|(s.q x y).take k++t :: (s.q x y).drop k) (g.at x y r) w':=by
 have a9:=hW.len Y;have hL:=h.ln Y af;have hT:=h.tk ht;have hB:=hL.hE;have a2:AM x≠155:=by unfold AM;split<;>decide
 have nb:qp p g x y≠g.tb t:=by
  unfold qp;by_cases h5:x=5
  .rw[bf h5];exact λe=>J ⟨h5,h.mT (nV Y h5) ht e⟩
  rw[av h5];exact h.E.ne hT eo
 have hn1:=gl s t;have a1:=sZ s a5;have Z:eN 133 #[P0<|g.tb t] w λw1=>Ln w1 (qp p g x y) (sk x y) (AM x) (DX x) (Fs p (s.dA t) g x y) (g.ro x y).1 (s.q x y).length (g.ro x y).2 ((s.q x y).map g.tb)/\Full w1 (g.tb t) 160 7 7 (gH p (s.dA t) g t)/\Tr p s g w (s.dA t) g w1:=by
  refine dq (rq h hW ht) λw1 i=>?_;have a0:=i.r.ln ((gJ hn1).2 Y) ey;rw[a1]at a0;exact⟨rfl,a0,i.r.tk<|(eB hn1).2 ht,i⟩
 have a3:((s.q x y).take k++t :: (s.q x y).drop k).length=(s.q x y).length+1:=by
  rw[db,List.length_cons,List.length_take,List.length_drop];omega
 by_cases a4:k<(s.q x y).length
 .refine dq (IE (qp p g x y) (sk x y) (g.ro x y).2 (s.q x y).length (g.tb t) (DX x) k a4 (AM x) (g.ro x y).1 (Fs p (s.dA t) g x y) (gH p (s.dA t) g t) ((s.q x y).map g.tb) (λw1=>Tr p s g w (s.dA t) g w1) w nb (λk W=>⟨eU hL.row hB a2 k W,eU hL.row hT eo k W⟩) af Z) ?_;rintro w' ⟨w1,i,gb,c',G,o,H,u⟩;refine⟨rfl,(some<|az gb 0,c'),JE i Y ht J a3 ?_ o H u⟩;simp_all
 have a7:k=(s.q x y).length:=af
 subst a7;refine dq (BR (qp p g x y) (sk x y) (g.ro x y).2 (s.q x y).length (g.tb t) (DX x) (AM x) (g.ro x y).1 (Fs p (s.dA t) g x y) (gH p (s.dA t) g t) ((s.q x y).map g.tb) (λw1=>Tr p s g w (s.dA t) g w1) w nb (λk W=>⟨eU hL.row hB a2 k W,eU hL.row hT eo k W⟩) af Z) ?_;rintro w' ⟨w1,i,gb,c',G,o,H,u⟩;refine⟨rfl,(some<|az gb 0,c'),JE i Y ht J a3 ?_ o H u⟩;grind
def qY.tl(v:qY)(u:Int):qY:={v with iT:=u}
def CZ(s:Pl)(u:Int):Nat:=(s.q 3 0).findIdx<|λa=>decide (u<(s.T a).iT)
def Pl.fO(s:Pl)(t:Nat)(u:Int):Pl:=s.dy t<|(s.T t).tl u
def Pl.iw(s:Pl)(t:Nat)(u:Int):Pl:=(s.fO t u).into 3 0 t<|(s.q 3 0).take (CZ (s.fO t u) u)++t :: (s.q 3 0).drop (CZ (s.fO t u) u)
def jk(s:Pl)(t a:Nat):Int×Pl:=if((bz s t).R a).1=0 then(0,s.iw t<|B.iL s.clk ((bz s t).R a).2) else(1,s)
theorem mV(s:Pl)(t:Nat)(u:Int)(a:Nat):((s.fO t u).T a).wh=(s.T a).wh/\((s.fO t u).T a).lf=(s.T a).lf/\((s.fO t u).T a).fr=(s.T a).fr/\((s.fO t u).T a).run=(s.T a).run:=by
 unfold Pl.fO;by_cases e:a=t
 .subst e;rw[dk];exact⟨rfl,rfl,rfl,rfl⟩
 grind[dU]
def LW.fO(h:LW s)(t:Nat)(u:Int):LW (s.fO t u):=h.same rfl rfl (λa=>(mV s t u a).1)
theorem ns{q r:Nat->Bool}:∀(l:List Nat),(∀u,u∈l->q u=r u)->l.findIdx q=l.findIdx r
 | [],_=>rfl
 | u :: l,h=>by
  rw[List.findIdx_cons,List.findIdx_cons,h u eG,ns l<|λv e=>h v<|by simp[e]]
theorem sq{f:Nat->Nat}{q:Nat->Bool}:∀(l:List Nat),(l.map f).findIdx q=l.findIdx (λa=>q<|f a)
 | []=>rfl
 | u :: l=>by
  rw[List.map_cons,List.findIdx_cons,List.findIdx_cons,sq l]
theorem Dw(q:Nat->Bool)(xs:List Nat):(if fst q xs<0 then(xs.length:Int) else fst q xs)=((xs.findIdx q:Nat):Int):=by
 unfold fst;grind
def Ml{w2:aa}(h:dZ p s g w)(ht:ft s t)(y:NV w w2 (g.tb t) u):Tr p s g w (s.fO t u) g w2:=by
 obtain⟨w1,i,rfl,_⟩:=y;refine Tr.ahead i<|(h.kept i).flag ht rfl rfl ?_ (bq (S:=λk=>k=g.tb t) (dx _ _) (ag rfl) _);refine(((h.kept i).tk ht).eE 5 _).congr (λj G=>?_);have e:∀a,sl (s.dy t<|(s.T t).tl u) g a t=sl s g a t:=λa=>by
  unfold sl;rw[ky (s:=s) (s':=s.dy t<|(s.T t).tl u) rfl rfl rfl rfl rfl (kh dk) rfl]
 have o:=pS 6 j af
 repeat' rcases o with rfl|o
 .rfl
 .rw[eP _ _ _ _ eo];exact(e 12).symm
 .rw[eP _ _ _ _ eo];show _=Value.bool _;rw[dk];rfl
 .rw[eP _ _ _ _ eo];show _=xp p g _;rw[dk];rfl
 .rw[eP _ _ _ _ eo];show _=zD g t _;rw[dk];rfl
 .rw[gU];show _=Value.int .i64 _;rw[dk];rfl
 rw[eP _ _ _ _ eo];exact(e 5).symm
theorem AH{i:Nat}(h:eJ p (s.fO t u) g i):eJ p s g i:=by
 obtain⟨x,y,z,e⟩:=h;refine⟨x,y,z,?_⟩;have H:ig (s.fO t u) x y z=ig s x y z:=nQ rfl (by grind[mV]) (λ_ _=>by grind[mV]);by_cases o:ig s x y z=true
 .rw[iq<|H.trans o]at e;rw[iq o];by_cases G:fi x
  .rw[im G]at e⊢;exact e
  have W:=sI o;have J:x=0\/x=1\/x=11\/x=13\/x=14\/x=15\/x=16\/x=17\/x=18:=by unfold fi at G;omega
  (repeat' rcases J with rfl|J)<;>exact e
 grind[wg]
theorem J7(x:Int)(h:dZ p s g w)(hW:LW s)(ht:ft s t)(a9:(s.T t).wh≠some (3,0))(c0:0<=s.clk)(c1:s.clk<=9223372036854775807):eN 168 #[P0 p.eb,P0<|g.tb t,ah x] w λw'=>∃r,Tr p s g w (s.iw t<|B.iL s.clk x) (g.at 3 0 r) w':=by
 have hl:fQ s 3 0:=ak<|ag ⟨rfl,rfl⟩;have aI:=hW.len hl;generalize hu:B.iL s.clk x=u;have a7:fQ (s.fO t u) 3 0:=ak<|ag ⟨rfl,rfl⟩
 obtain⟨G,a4⟩:∃G:Nat->Bool,∀a,ft s a->G (g.tb a)=decide (u<((s.fO t u).T a).iT):=by
  classical
  refine⟨λb=>if J:∃a,ft s a/\g.tb a=b then decide (u<((s.fO t u).T J.choose).iT) else false,λa Z=>?_⟩;have J:∃a',ft s a'/\g.tb a'=g.tb a:=⟨a,Z,rfl⟩;show(if J:∃a',ft s a'/\g.tb a'=g.tb a then decide (u<((s.fO t u).T J.choose).iT) else false)=_;rw[dif_pos J,h.mT J.choose_spec.1 Z J.choose_spec.2]
 have aD:((s.q 3 0).map g.tb).findIdx G=CZ (s.fO t u) u:=by
  rw[sq];unfold CZ;exact ns _<|λa Z=>a4 a (hW.b 3 0 hl a Z).1
 refine J8 p.eb (g.tb t) (s.q 3 0).length (g.ro 3 0).2 (g.ro 3 0).1 s.clk x (fst G<|(s.q 3 0).map g.tb) (gH p s g t) (λw'=>∃r,Tr p s g w (s.iw t u) (g.at 3 0 r) w') w (h.E.ne (h.tk ht) eo) (h.E.cell 28 af) (h.E.cell 33 af) (h.tk ht) c0 c1 ?_ ?_
 .intro w2 w3 W hg;rw[hu]at W;have h2:=(Ml h ht W).kept hg;obtain⟨H,Y⟩:∃H,s.q 3 0≠[]->(g.ro 3 0).1=some (az H 0)/\H<w3.heap.size/\∀j x,((s.q 3 0).map g.tb)[j]?=some x->w3.cell? (az H j)=some (P0 x):=by
   by_cases e:s.q 3 0=[]
   .simp_all
   have hr:=(h2.r.ln a7 (by show(s.q 3 0).length<=_;omega)).row;let⟨H,lc,he⟩:=ef hr (by exact λe'=>e<|dh.1 e');rw[he]at hr;injection he with a1 _ _;exact⟨H,λ_=>⟨a1,(dR hr H rfl).2.1,λj x o=>(ik hr).2.2.2.2.2 j (P0 x) (by rw[fB];show Option.map P0 ((s.q 3 0).map g.tb)[j]?=_;grind)⟩⟩
  have a0:∀{j:Nat} {x:Nat},((s.q 3 0).map g.tb)[j]?=some x->s.q 3 0≠[]:=λo e=>by grind
  refine EE H (g.ro 3 0).2 (s.q 3 0).length w.heap.size (g.ro 3 0).1 G ((s.q 3 0).map g.tb) w3 ey af (λj x o=>⟨(Y<|a0 o).1,(Y<|a0 o).2.2 j x o⟩) (λe=>(Y<|λe'=>e ey).2.1) ?_;intro w4 a2 x o;obtain⟨a,Z,rfl⟩:=eX.1 o;have a5:=(hW.b 3 0 hl a Z).1;rw[a4 a a5];have h4:=h2.kept a2;obtain⟨_,_,_,i⟩:=W;have aF:w4.cell? (az w.heap.size 0)=some (P0<|g.tb t):=by
   rw[(ay (ar hg a2) (a:=az w.heap.size 0)<|ch i).1];simp[World.cell?,i]
  have a6:w4.cell? (az (g.tb t) 5)=some (ah u):=by
   rw[(h4.r.tk (t:=t) ht).cell 5 af];show some (Value.int .i64 ((s.fO t u).T t).iT)=_;unfold Pl.fO;rw[dk];rfl
  exact It (g.tb a) w.heap.size (g.tb t) ((s.fO t u).T a).iT u w4 aF ((h4.r.tk (t:=a) a5).cell 5 af) a6
 intro w2 w3 W hg;rw[hu]at W;have h2:=(Ml h ht W).kept hg;have aA:(if fst G ((s.q 3 0).map g.tb)<0 then((s.q 3 0).length:Int) else fst G ((s.q 3 0).map g.tb))=((CZ (s.fO t u) u:Nat):Int):=by
  have:=Dw G<|(s.q 3 0).map g.tb;rw[eD,aD]at this;exact this
 rw[aA];refine dq (ID (x:=3) (y:=0) h2.r (hW.fO t u) a7 ht af (by grind[mV]) (by unfold CZ;grind)) ?_;rintro w' ⟨r,h3⟩;obtain⟨_,_,_,i⟩:=W;refine⟨rfl,⟨r,h2.trans h3⟩,?_⟩;refine(h3.other ((hg.block w.heap.size (ch i) ey).trans i)<|λaC=>?_).1;have:=h.lt<|AH aC;omega
theorem i17{op a b c:Nat}(h:dZ p s g w)(hP:PW p)(hI:In s t)(Y:a<p.rg (bz s t).f)(W:LW s)(u:(s.T t).wh=none)(c0:0<=s.clk)(c1:s.clk<=9223372036854775807):Calls prog 167 #[mU p s g t (op,a,b,c),P0<|p.ac+20,P0<|p.ac+21] w λe w'=>∃why:Int,e=.returned (ah why)/\why=(jk s t a).1/\∃g',Tr p s g w (jk s t a).2 g' w':=by
 refine uH (u:=98) (H:=112) af op a b c _ _ _ (p.ac+20) (p.ac+21) ((bz s t).R a) (λwhy w'=>why=(jk s t a).1/\∃g',Tr p s g w (jk s t a).2 g' w') w (hP.box h.fix (j:=20) af rfl).1 (hP.box h.fix (j:=21) af rfl).1 (In.a h hI op a b c _ _ Y) (λG w1 i=>?_)<|λG w1 i=>?_
 .have hS:jk s t a=(0,s.iw t<|B.iL s.clk ((bz s t).R a).2):=by unfold jk;rw[bf G]
  refine(He op a b c (g.fb t<|de s t) (g.tb t) p.eb ((bz s t).R a).2 (λw'=>∃g',Tr p s g w (jk s t a).2 g' w') w1<|λw2 o=>?_).mono ?_
  .refine dq (J7 ((bz s t).R a).2 (h.kept<|ar i o) W hI.ht ey c0 c1) ?_;rintro w' ⟨r,y⟩;exact⟨rfl,g.at 3 0 r,by grind[ar,F.Tr.ahead]⟩
  grind
 unfold jk;rw[av G];exact⟨rfl,g,(Tr.refl h).kept i⟩
end F
namespace F
variable {p:dH}{s:Pl}{v:B.V}
def tw(p:dH)(s:Pl)(v:B.V):Prop:=(∃u i a,u∈s.lv/\i<(s.T u).fr.length/\a<p.rg (du s u i).f/\(du s u i).R a=v)\/v∈s.kp
theorem iD:v∈eH p s↔tw p s v:=by
 grind[eH,zB,uF,vt,tw,B.mm]
def dV(p:dH)(s:Pl)(v:B.V):Prop:=B.px (eH p s) s.M v
theorem dV.num(x:Int):dV p s (0,x):=ag rfl
def dV.root(h:tw p s v):dV p s v:=B.px.mem<|iD.2 h
structure FW(p:dH) (l:List jq):Prop where
 n1:l≠[]
 n2:l.length<=20
 f:∀i,i<l.length->(l.getD i oD).f<p.nf/\(l.getD i oD).nx<=p.len (l.getD i oD).f
 b:∀i,i+1<l.length->(l.getD (i+1) oD).bk.2.1<p.rg (l.getD i oD).f
structure fN(p:dH) (s:Pl) (X:Nat->Prop):Prop where
 lw:LW s
 ww:WW p s
 nd:s.lv.Nodup
 lt:∀u,u∈s.lv->ft s u
 ql:∀x y,fQ s x y->∀t,t∈s.q x y->t∈s.lv
 lf:∀u,ft s u->(s.T u).lf≠none->∃x y,(s.T u).wh=some (x,y)/\(x=4\/x=5)
 rn:∀u,ft s u->(s.T u).run=true->(s.T u).wh=none/\u∈s.lv
 ol:s.out.length=s.nt
 ok:∀v,v∈s.out->v.1=0\/v∈s.kp
 kn:s.kp.Nodup
 kz:∀v,v∈s.kp->v.1≠0
 fw:∀u,u∈s.lv->X u->FW p (s.T u).fr
 hl:B.kQ s.kd p.n (eH p s) s.M
 fc:∀k,1<=k->k<=p.n->s.kd.on k=true->s.ck k<=p.nf
 bt:∀k,(s.fA k).length<=1000/\∀x,x∈s.fA k->x<256
 c0:0<=s.clk
 c1:s.clk<=9223372036854775807
abbrev Ok(p:dH)(s:Pl):Prop:=fN p s<|λ_=>True
def fN.JS{X Y:Nat->Prop}(h:fN p s X)(hX:∀u,u∈s.lv->Y u->X u):fN p s Y:={h with fw:=λu e i=>h.fw u e (hX u e i)}
section
variable {p:dH}{s:Pl}{X:Nat->Prop} (h:fN p s X)
include h
theorem fN.Al{v:B.V}(e:dV p s v):B.qX s.kd.on p.n v:=B.px.Al e h.hl
theorem fN.kl:s.kp.length<=p.n:=by
 have i:∀v,v∈s.kp->1<=v.1/\v.1<=p.n/\v.2=0:=λv i=>by
  rcases h.Al (dV.root<|ak i) with u|u
  .exact dr u<|h.kz v i
  omega
 have hn:(s.kp.map (·.1)).Nodup:=by
  have y:∀l:List B.V,l.Nodup->(∀v,v∈l->v.2=0)->(l.map (·.1)).Nodup:=by
   intro l;induction l with
   |nil=>grind
   |cons a l H=>
    grind
  exact y s.kp h.kn<|λv h=>(i v h).2.2
 have:=gR p.n _ hn (λt ht=>by
  grind)
 grind
theorem fN.ll:s.lv.length<=s.nt:=gR s.nt _ h.nd<|λt ht=>h.lt t ht
end
theorem fN.same{p:dH}{s s':Pl}{X:Nat->Prop}(h:fN p s X)(W:s'.nt=s.nt)(H:s'.T=s.T)(G:s'.q=s.q)(u:s'.lv=s.lv)(J:s'.out=s.out)(e6:s'.kp=s.kp)(e7:s'.fA=s.fA)(y:s'.clk=s.clk)(o:s'.kd=s.kd)(e:s'.M=s.M)(i:s'.ck=s.ck):fN p s' X:=by
 obtain⟨a1,a2,a3,a4,a5,a6,a7,a8,a9,aA,aD,aB,a0⟩:=s;obtain⟨b1,b2,b3,b4,b5,b6,b7,b8,b9,Z,aC,aE,Y⟩:=s';simp only at W H G u J e6 e7 y o e i;subst W H G u J e6 e7 y o e i;exact⟨⟨h.lw.a,h.lw.b,h.lw.c,h.lw.d⟩,h.ww,h.nd,h.lt,h.ql,h.lf,h.rn,h.ol,h.ok,h.kn,h.kz,h.fw,h.hl,h.fc,h.bt,h.c0,h.c1⟩
end F
namespace F
variable {d i k t x y:Nat}{e:List B.V}{f:jq}{l:List jq}{p:dH}{s s':Pl}{u v:B.V}
def fN.roots{X:Nat->Prop}(h:fN p s X)(e:s'.kd=s.kd)(u:s'.M=s.M)(o:∀v,tw p s' v->dV p s v):B.kQ s'.kd p.n (eH p s') s'.M:=by
 rw[e,u];exact B.Dn h.hl<|λv i=>o v<|iD.1 i
theorem FW.set{p:dH}{l:List jq}(h:FW p l){i:Nat}{f:jq}(hi:i<l.length)(H:f.f=(l.getD i oD).f)(J:f.bk=(l.getD i oD).bk)(hn:f.nx<=p.len f.f):FW p (l.set i f):=by
 have y:∀j,(l.set i f).getD j oD=if j=i then f else l.getD j oD:=λj=>by
  grind
 have o:∀j,((l.set i f).getD j oD).f=(l.getD j oD).f:=λj=>by
  grind
 have G:∀j,((l.set i f).getD j oD).bk=(l.getD j oD).bk:=λj=>by
  grind
 refine⟨λe=>h.n1 ?_,eZ eC h.n2,λj u=>?_,λj u=>?_⟩
 .grind
 .rw[eC]at u;refine⟨by rw[o];exact(h.f j u).1,?_⟩;rw[o,y];by_cases e:j=i
  .grind
  rw[av e];exact(h.f j u).2
 grind[List.length_set,F.FW.b]
theorem fN.dM{p:dH}{s:Pl}{X:Nat->Prop}(h:fN p s X){t i:Nat}{f:jq}(hi:i<(s.T t).fr.length)(W:f.f=(du s t i).f)(hb:f.bk=(du s t i).bk)(hn:f.nx<=p.len f.f)(hR:∀a,a<p.rg f.f->dV p s (f.R a)):fN p (s.dM t i f) X:=by
 have hw:=λu=>gO s t i u f;have G:∀u j,(du (s.dM t i f) u j).f=(du s u j).f:=λu j=>by
  grind[mJ,mi]
 have J:∀u,(s.T u).fr≠[]->((s.dM t i f).T u).fr≠[]:=λu h0 e=>h0 (by
  grind)
 refine⟨h.lw.dM t i f,λu o x y hx H=>?_,h.nd,h.lt,h.ql,λu o hl=>?_,λu o hr=>?_,h.ol,h.ok,h.kn,h.kz,λu o hX=>?_,h.roots rfl rfl ?_,h.fc,h.bt,h.c0,h.c1⟩
 .rw[(hw u).1]at hx;let⟨k,k1,k2,k3⟩:=h.ww u o x y hx H;grind
 .rw[(hw u).2.1]at hl;rw[(hw u).1];exact h.lf u o hl
 .rw[(hw u).2.2.1]at hr;rw[(hw u).1];exact h.rn u o hr
 .have:=h.fw u o hX;by_cases e:u=t
  .subst e;unfold Pl.dM;rw[dk];exact this.set hi W hb hn
  grind[qO]
 rintro v (⟨u,j,a,o,Z,Y,e⟩|hv)
 .rw[(hw u).2.2.2.2]at Z;rw[G]at Y;by_cases e2:u=t/\j=i
  .grind[mJ]
  rw[mi s f e2]at e;exact dV.root<|ag ⟨u,j,a,o,Z,Y,e⟩
 exact dV.root<|ak hv
theorem fN.oZ{X:Nat->Prop}(h:fN p s X)(o:t∈s.lv)(hX:X t)(hi:i<(s.T t).fr.length)(a:Nat)(u:dV p s v):fN p (s.dM t i<|(du s t i).set a v) X:=by
 refine h.dM hi rfl rfl ((h.fw t o hX).f i hi).2 (λb y=>?_);show dV p s (B.set (du s t i).R a v b);by_cases e:b=a
 .grind[B.jZ]
 rw[B.jl _ _ _ _ e];exact dV.root<|ag ⟨t,i,b,o,hi,y,rfl⟩
theorem fN.line{X:Nat->Prop}(h:fN p s X)(Y:t∈s.lv)(hn:s'.nt=s.nt)(a4:LW s')(hT:∀u,u≠t->s'.T u=s.T u)(a0:(s'.T t).fr=(s.T t).fr)(hq:∀x y,fQ s x y->∀a,a∈s'.q x y->a∈s.q x y\/a=t)(a1:s'.lv=s.lv/\s'.out=s.out/\s'.kp=s.kp/\s'.fA=s.fA/\s'.clk=s.clk/\s'.kd=s.kd/\s'.M=s.M/\s'.ck=s.ck)(hw:∀x y,(s'.T t).wh=some (x,y)->(x=4\/x=5)->∃k,(s'.T t).lf=some k/\(s.T t).fr≠[]/\k.2.1<p.rg (du s t<|(s.T t).fr.length-1).f)(a3:(s'.T t).lf≠none->∃x y,(s'.T t).wh=some (x,y)/\(x=4\/x=5))(a2:(s'.T t).run=true->(s'.T t).wh=none):fN p s' X:=by
 obtain⟨H,f2,Z,f4,f5,f6,f7,f8⟩:=a1;have i:∀u,(s'.T u).fr=(s.T u).fr:=λu=>by
  grind
 have W:∀u j,du s' u j=du s u j:=λu j=>gK<|i u;refine⟨a4,λu o x y hx J=>?_,eZ H h.nd,λu o=>(eB hn).2<|h.lt u ey,λx y G a ha=>?_,λu o G=>?_,λu o hr=>?_,by rw[f2,hn];exact h.ol,by rw[f2,Z];exact h.ok,eZ Z h.kn,eZ Z h.kz,λu o hX=>?_,h.roots f6 f7 ?_,by rw[f6,f8];exact h.fc,eZ f4 h.bt,eZ f5 h.c0,eZ f5 h.c1⟩
 .rw[i u,W];by_cases e:u=t
  .grind
  rw[hT u e]at hx⊢;exact h.ww u ((eB hn).1 o) x y hx J
 .grind[gJ,F.fN.ql]
 .by_cases e:u=t
  .grind
  rw[hT u e]at G⊢;exact h.lf u ((eB hn).1 o) G
 .grind[eB,F.fN.rn]
 .grind[F.fN.fw]
 rintro v (⟨u,j,a,o,hj,ha,e⟩|hv)
 .rw[W]at ha e;rw[i]at hj;rw[H]at o;exact dV.root<|ag ⟨u,j,a,o,hj,ha,e⟩
 rw[Z]at hv;exact dV.root<|ak hv
theorem xP{X:Nat->Prop}(h:fN p s X)(ht:ft s t):((s.dA t).T t).lf=none:=by
 cases hw:(s.T t).wh with
 |none=>
  grind[fG,F.fN.lf]
 |some i=>rw[gP (x:=i.1) (y:=i.2) hw,dk];rfl
theorem pJ{a:Nat}(h:a∈(s.dA t).q x y):a∈s.q x y:=by
 cases hw:(s.T t).wh with
 |none=>grind[fG]
 |some i=>
  rw[gP (x:=i.1) (y:=i.2) hw]at h;have o:a∈(s.fI i.1 i.2<|(s.q i.1 i.2).erase t).q x y:=h;grind[gM,List.mem_of_mem_erase,gf]
theorem xO(s:Pl)(t:Nat):(s.dA t).lv=s.lv/\(s.dA t).out=s.out/\(s.dA t).kp=s.kp/\(s.dA t).fA=s.fA/\(s.dA t).clk=s.clk/\(s.dA t).kd=s.kd/\(s.dA t).M=s.M/\(s.dA t).ck=s.ck:=by
 grind[gI]
theorem fN.into{p:dH}{s:Pl}{X:Nat->Prop}(h:fN p s X){x y t:Nat}{l:List Nat}(H:t∈s.lv)(hl:fQ s x y)(hx:x=2\/x=3)(hd:l.Nodup)(Z:∀u,u∈l↔(u∈(s.dA t).q x y\/u=t)):fN p (s.into x y t l) X:=by
 have ht:=h.lt t H;have G:(s.into x y t l).T t=((s.dA t).T t).to x y:=dk _ _ _;refine h.line H (gl s t) (h.lw.into ht hl af hd Z) (λu e=>(dU _ _ e).trans<|uW s e) ?_ (λa b i c hc=>?_) (xO s t) (λa b i a0=>?_) (λJ=>?_)<|λY=>?_
 .rw[G];exact kE s t t
 .have o:c∈((s.dA t).fI x y l).q a b:=hc;grind[gM,pJ,gf]
 .rw[G]at i;injection i with i;grind
 .rw[G]at J;exact dr (xP h ht) J
 rw[G]at Y;cases Y
theorem fN.dX{X:Nat->Prop}(h:fN p s X)(o:t∈s.lv):fN p (s.dX 2 0 t) X:=by
 have y:=h.lw.dA<|h.lt t o;have G:fQ s 2 0:=ag ⟨rfl,rfl⟩;have i:=(gJ<|gl s t).2 G;exact h.into o G (ag rfl) (qT (y.c 2 0 i)<|y.out i<|by grind[kD])<|λu=>by simp
theorem fN.wait{p:dH}{s:Pl}{X:Nat->Prop}(h:fN p s X){x y t:Nat}{k:Nat×Nat×Nat×Nat}(G:t∈s.lv)(hX:X t)(hl:fQ s x y)(hx:x=4\/x=5)(Y:¬(x=5/\y=t))(hk:k.2.1<p.rg (du s t<|de s t).f):fN p (s.wait x y t k) X:=by
 have i:(s.wait x y t k).T t=(((s.dA t).T t).to x y).kR k:=by
  show((s.dX x y t).dy t _).T t=_;rw[dk,kr]
 have J:∀u,((s.wait x y t k).T u).wh=((s.dX x y t).T u).wh:=λu=>by
  by_cases e:u=t
  .subst e;rw[i,kr];rfl
  show(((s.dX x y t).dy t _).T u).wh=_;grind[dU]
 refine h.line G (gl s t) ((h.lw.dX (h.lt t G) hl Y).same rfl rfl J) (λu e=>(dU _ _ e).trans<|nM s e) ?_ (λa b H c hc=>?_) (xO s t) (λa b H a0=>⟨k,kh i,(h.fw t G hX).n1,hk⟩) (λ_=>⟨x,y,kh i,hx⟩)<|λZ=>?_
 .rw[i];exact kE s t t
 .have o:c∈((s.dA t).fI x y<|(s.dA t).q x y++[t]).q a b:=hc;grind[gM,pJ,gf]
 rw[i]at Z;cases Z
def Pl.start(s:Pl)(t:Nat):Pl:=(s.dA t).dy t {(s.dA t).T t with run:=true}
theorem fN.start{p:dH}{s:Pl}{X:Nat->Prop}(h:fN p s X){t:Nat}(y:t∈s.lv):fN p (s.start t) X:=by
 have ht:=h.lt t y;have o:(s.start t).T t={(s.dA t).T t with run:=true}:=dk _ _ _;have i:∀u,((s.start t).T u).wh=((s.dA t).T u).wh:=λu=>by
  by_cases e:u=t
  .grind
  show(((s.dA t).dy t _).T u).wh=_;grind[dU]
 refine h.line y (gl s t) ((h.lw.dA ht).same rfl rfl i) (λu e=>(dU _ _ e).trans<|uW s e) (by grind[kE]) (λa b _ c J=>ag<|pJ (s:=s) (t:=t) J) (xO s t) (λa b G _=>?_) (λH=>?_)<|λ_=>?_
 .grind[kD]
 .grind[absurd,xP]
 rw[i,kD]
theorem fN.gk{p:dH}{s:Pl}{X:Nat->Prop}(h:fN p s X){t:Nat}(ht:ft s t)(hX:t∈s.lv->X t){v:B.V}(u:dV p s v):fN p (s.gk t v) X:=by
 unfold Pl.gk;split
 .exact h
 rename_i k o;let⟨x,y,hw,_⟩:=h.lf t ht ey;let⟨H,G,_⟩:=h.lw.a t ht x y hw;have i:=h.ql x y H t G;have hi:de s t<(s.T t).fr.length:=by
  have:=(h.fw t i<|hX i).n1;have:(s.T t).fr.length≠0:=λe=>this<|dh.1 e;unfold de;omega
 exact(h.oZ i (hX i) hi k.2.1 u).dX i
theorem qt(h:u∈ko e v):u∈e\/(u=v/\v.1≠0):=by
 grind[ko]
theorem Di(h:u∈e):u∈ko e v:=by
 grind[ko]
theorem lZ(h:v.1≠0):v∈ko e v:=by
 unfold ko;grind
theorem FF{o:List B.V}(h:o.Nodup):(ko o v).Nodup:=by
 grind[ko,List.nodup_append]
theorem xY(s:Pl)(t:Nat)(v:B.V)(kind:Nat)(x:Int)(u:Nat):((s.gone t v kind x).T u).fr=(s.T u).fr:=by
 by_cases e:u=t
 .subst e;show(((s.dA u).dy u ((s.dA u).T u).stop).T u).fr=_;rw[dk];exact kE s u u
 grind[nW]
theorem iX(s:Pl)(t:Nat)(v:B.V)(kind:Nat)(x:Int):(s.gone t v kind x).lv=s.lv.erase t/\(s.gone t v kind x).out=s.out.set (t-1) v/\(s.gone t v kind x).kp=ko s.kp v/\(s.gone t v kind x).fA=s.fA/\(s.gone t v kind x).clk=s.clk/\(s.gone t v kind x).kd=s.kd/\(s.gone t v kind x).M=s.M/\(s.gone t v kind x).ck=s.ck/\(s.gone t v kind x).ev=s.ev++[(kind,t,x)]/\(s.gone t v kind x).q=(s.dA t).q:=by
 let⟨k1,k2,u,y,i,J,H,o,G,e⟩:=gI s t;refine⟨rfl,?_,?_,i,H,o,G,e,?_,rfl⟩
 .show(s.dA t).out.set (t-1) v=_;rw[k2]
 .show ko (s.dA t).kp v=_;rw[u]
 show(s.dA t).ev++[(kind,t,x)]=_;rw[y]
theorem fN.gone{p:dH}{s:Pl}{X Y:Nat->Prop}(h:fN p s X){t:Nat}(a2:t∈s.lv){v:B.V}(hv:dV p s v)(kind:Nat)(x:Int)(hY:∀u,u≠t->Y u->X u):fN p (s.gone t v kind x) Y:=by
 have ht:=h.lt t a2;have hn:=jU s t v kind x;let⟨H,f2,f3,f4,f5,f6,f7,f8,_,a0⟩:=iX s t v kind x;have a1:∀u j,du (s.gone t v kind x) u j=du s u j:=λu j=>gK<|xY s t v kind x u;have W:(s.gone t v kind x).T t=((s.dA t).T t).stop:=dk _ _ _;have J:=h.lw.gone ht v kind x;refine⟨J,h.ww.gone v kind x,by grind[F.fN.nd],λu i=>(eB hn).2<|h.lt u<|List.mem_of_mem_erase (by rw[<-H];exact i),λa b y c G=>?_,λu i y=>?_,λu i Z=>?_,by rw[f2,eC,hn];exact h.ol,λu i=>?_,by grind[FF,F.fN.kn],λu i=>?_,λu i hy=>?_,h.roots f6 f7 ?_,by rw[f6,f8];exact h.fc,eZ f4 h.bt,eZ f5 h.c0,eZ f5 h.c1⟩
 .have hb:=J.b a b y c G;have e:c≠t:=λe=>by
   grind[qv,kD]
  rw[H,h.nd.mem_erase_iff];rw[a0]at G;exact⟨e,h.ql a b ((gJ hn).1 y) c<|pJ G⟩
 .by_cases e:u=t
  .subst e;rw[W]at y;exact dr (xP h ht) y
  rw[nW s v kind x e]at y⊢;exact h.lf u ((eB hn).1 i) y
 .by_cases e:u=t
  .subst e;rw[W]at Z;cases Z
  grind[nW,eB,F.fN.rn,F.fN.nd]
 .grind[List.mem_or_eq_of_mem_set,Di,lZ,F.fN.ok]
 .grind[qt,F.fN.kz]
 .grind[xY,F.fN.fw,F.fN.nd]
 rintro u (⟨c,j,a,G,hj,ha,e⟩|i)
 .rw[a1]at ha e;rw[xY]at hj;rw[H]at G;exact dV.root<|ag ⟨c,j,a,List.mem_of_mem_erase G,hj,ha,e⟩
 rw[f3]at i;rcases qt i with o|o
 .exact dV.root<|ak o
 grind
def ja(s:Pl)(x y t:Nat):(s.dX x y t).lv=s.lv/\(s.dX x y t).out=s.out/\(s.dX x y t).kp=s.kp/\(s.dX x y t).fA=s.fA/\(s.dX x y t).clk=s.clk/\(s.dX x y t).kd=s.kd/\(s.dX x y t).M=s.M/\(s.dX x y t).ck=s.ck/\(s.dX x y t).ev=s.ev/\(s.dX x y t).sp=s.sp:=by
 let⟨k1,k2,u,G,i,J,W,o,H,e⟩:=gI s t;exact⟨k1,k2,u,i,W,o,H,e,G,J⟩
theorem pZ(s:Pl)(t:Nat)(v:B.V):(s.gk t v).lv=s.lv/\(s.gk t v).out=s.out/\(s.gk t v).kp=s.kp/\(s.gk t v).fA=s.fA/\(s.gk t v).clk=s.clk/\(s.gk t v).kd=s.kd/\(s.gk t v).M=s.M/\(s.gk t v).ck=s.ck/\(s.gk t v).ev=s.ev/\(s.gk t v).sp=s.sp:=by
 unfold Pl.gk;split
 .grind
 exact ja _ 2 0 t
theorem uB(v:B.V):∀(l:List Nat) (s:Pl),(s.ep v l).lv=s.lv/\(s.ep v l).kp=s.kp/\(s.ep v l).ev=s.ev/\(s.ep v l).nt=s.nt/\(s.ep v l).sp=s.sp
 | [],_=>⟨rfl,rfl,rfl,rfl,rfl⟩
 | t :: l,s=>by
  let⟨G,W,y,H,u⟩:=uB v l<|s.gk t v;let⟨J,_,i,_,_,_,_,_,o,e⟩:=pZ s t v;exact⟨G.trans J,W.trans i,y.trans o,H.trans<|oK s t v,u.trans e⟩
theorem fN.ep{p:dH}{X:Nat->Prop}{v:B.V}:∀(l:List Nat) {s:Pl},fN p s X->(∀u,u∈l->ft s u)->(∀u,u∈s.lv->X u)->(v.1=0\/v∈s.kp)->fN p (s.ep v l) X
 | [],_,h,_,_,_=>h
 | t :: l,s,h,hl,hX,hv=>by
  let⟨y,_,o,_⟩:=pZ s t v;refine fN.ep l (h.gk (hl t eG) (hX t)<|hv.elim (λe=>ag e)<|λe=>dV.root<|ak e) (λu i=>(eB<|oK s t v).2<|hl u<|by simp[i]) (λu i=>hX u (by rw[<-y];exact i))<|eZ o hv
theorem fN.leave{X:Nat->Prop}(h:fN p s X)(i:t∈s.lv)(hX:∀u,u≠t->X u)(y:dV p s v)(kind:Nat)(x:Int):Ok p (s.leave t v kind x):=by
 refine(h.gone i y kind x<|λu o _=>hX u o).ep _ (λu o=>(eB<|jU s t v kind x).2 (h.lw.b 5 t (ak<|ak<|ak ⟨rfl,h.lt t i⟩) u o).1) (λ_ _=>trivial) ?_;grind[iX,lZ]
def vj(s:Pl)(t:Nat)(v:B.V)(kind:Nat)(x:Int):(s.leave t v kind x).lv=s.lv.erase t/\(s.leave t v kind x).ev=s.ev++[(kind,t,x)]/\(s.leave t v kind x).nt=s.nt:=by
 let⟨u,_,o,y,_⟩:=uB v (s.q 5 t)<|s.gone t v kind x;let⟨e,_,_,_,_,_,_,_,i,_⟩:=iX s t v kind x;exact⟨u.trans e,o.trans i,y.trans<|jU s t v kind x⟩
theorem mQ(l:List jq)(f:jq)(i:Nat):(l++[f]).getD i oD=if i=l.length then f else l.getD i oD:=by
 grind
theorem FW.push(h:l=[]\/FW p l)(H:l.length<20)(u:f.f<p.nf)(hn:f.nx<=p.len f.f)(y:l≠[]->f.bk.2.1<p.rg (l.getD (l.length-1) oD).f):FW p (l++[f]):=by
 have o:∀i,i<l.length->FW p l:=λi hi=>h.resolve_left (λe=>by grind);refine⟨eG,ey,λi hi=>?_,λi hi=>?_⟩
 .rw[db,fh]at hi;rw[mQ];by_cases e:i=l.length
  .grind
  rw[av e];exact(o i af).f i af
 rw[db,fh]at hi;rw[mQ,mQ];rw[av (show ¬i=l.length by omega)];by_cases e:i+1=l.length
 .grind
 rw[av e];grind[F.FW.b]
def uh(s:Pl)(t:Nat)(f:jq):((s.push t f).T t).fr=(s.T t).fr++[f]:=by unfold Pl.push;rw[dk];rfl
def qQ(s:Pl){u:Nat}(f:jq)(h:u≠t):(s.push t f).T u=s.T u:=dU _ _ h
theorem EW(s:Pl)(t:Nat)(f:jq)(u:Nat):((s.push t f).T u).run=(s.T u).run:=by
 unfold Pl.push;by_cases e:u=t
 .subst e;rw[dk];rfl
 grind[dU]
theorem fN.push{p:dH}{s:Pl}{X Y:Nat->Prop}(h:fN p s X){t:Nat}{f:jq}(hw:(s.T t).wh=none)(W:(s.T t).fr.length<20)(hF:(s.T t).fr=[]\/FW p (s.T t).fr)(hf:f.f<p.nf)(hn:f.nx<=p.len f.f)(hb:(s.T t).fr≠[]->f.bk.2.1<p.rg (du s t<|de s t).f)(hR:∀a,a<p.rg f.f->dV p s (f.R a))(hY:∀u,u≠t->Y u->X u):fN p (s.push t f) Y:=by
 have G:=λu=>rJ s t f u;have o:∀u,u≠t->(s.push t f).T u=s.T u:=λu e=>qQ s f e;refine⟨h.lw.push t f,λu i x y J a0=>?_,h.nd,h.lt,h.ql,λu i W=>?_,λu i hr=>?_,h.ol,h.ok,h.kn,h.kz,λu i hy=>?_,h.roots rfl rfl ?_,h.fc,h.bt,h.c0,h.c1⟩
 .rw[(G u).1]at J;have e:u≠t:=λe=>by grind
  let⟨k,k1,k2,k3⟩:=h.ww u i x y J a0;grind[gK]
 .rw[(G u).2]at W;rw[(G u).1];exact h.lf u i W
 .rw[EW]at hr;rw[(G u).1];exact h.rn u i hr
 .by_cases e:u=t
  .subst e;rw[uh];exact FW.push hF W hf hn hb
  rw[o u e];exact h.fw u i<|hY u e hy
 rintro v (⟨u,j,a,i,Z,H,e⟩|hv)
 .by_cases e1:u=t
  .subst e1;rw[uh,db,fh]at Z;by_cases e2:j=(s.T u).fr.length
   .grind[xL]
   rw[pI s f<|λ_=>by omega]at H e;exact dV.root<|ag ⟨u,j,a,i,af,H,e⟩
  rw[pI s f<|λe'=>dr e' e1]at H e;rw[o u e1]at Z;exact dV.root<|ag ⟨u,j,a,i,Z,H,e⟩
 exact dV.root<|ak hv
theorem FW.pop(h:FW p l)(y:2<=l.length):FW p l.dropLast:=by
 have o:∀i,i+1<l.length->l.dropLast.getD i oD=l.getD i oD:=λi hi=>by
  grind
 have u:l.dropLast.length=l.length-1:=eY;refine⟨λe=>?_,gD h.n2,λi hi=>?_,λi hi=>?_⟩
 .grind
 .rw[o i af];exact h.f i af
 grind[F.FW.b]
theorem lV(s:Pl){u:Nat}(h:u≠t):(s.pop t).T u=s.T u:=dU _ _ h
theorem Ks(s:Pl)(t:Nat):((s.pop t).T t).fr=(s.T t).fr.dropLast:=by unfold Pl.pop;rw[dk];rfl
theorem By(s:Pl)(t u:Nat):((s.pop t).T u).run=(s.T u).run:=by
 unfold Pl.pop;by_cases e:u=t
 .subst e;rw[dk];rfl
 grind[dU]
theorem fN.pop{p:dH}{s:Pl}{X Y:Nat->Prop}(h:fN p s X){t:Nat}(hw:(s.T t).wh=none)(hY:∀u,Y u->X u/\(u≠t\/2<=(s.T t).fr.length)):fN p (s.pop t) Y:=by
 have o:=λu=>xN s t u;refine⟨h.lw.pop t,h.ww.pop hw,h.nd,h.lt,h.ql,λu i W=>?_,λu i J=>?_,h.ol,h.ok,h.kn,h.kz,λu i Z=>?_,h.roots rfl rfl ?_,h.fc,h.bt,h.c0,h.c1⟩
 .rw[(o u).2]at W;rw[(o u).1];exact h.lf u i W
 .rw[By]at J;rw[(o u).1];exact h.rn u i J
 .let⟨k1,k2⟩:=hY u Z;have:=h.fw u i k1;grind[Ks,lV,F.FW.pop]
 rintro v (⟨u,j,a,i,G,y,e⟩|hv)
 .by_cases H:u=t
  .subst H;rw[ui]at G;rw[qm s<|λ_=>by omega]at y e;exact dV.root<|ag ⟨u,j,a,i,af,y,e⟩
  rw[qm s<|λe'=>dr e' H]at y e;rw[lV s H]at G;exact dV.root<|ag ⟨u,j,a,i,G,y,e⟩
 exact dV.root<|ak hv
def rP(hw:(s.T t).wh=none)(v:B.V)(kind:Nat)(x:Int):(s.pop t).gone t v kind x=(s.gone t v kind x).pop t:=by
 have y:((s.pop t).T t).wh=none:=by rw[(xN s t t).1];exact hw
 have J:((s.pop t).gone t v kind x).T=((s.gone t v kind x).pop t).T:=by
  funext i
  by_cases e:i=t
  .subst e;have W:((s.pop i).gone i v kind x).T i=((s.pop i).T i).stop:=by
    show(((s.pop i).dA i).dy i (((s.pop i).dA i).T i).stop).T i=_;rw[dk,fG y]
   have H:(s.gone i v kind x).T i=(s.T i).stop:=by
    show((s.dA i).dy i ((s.dA i).T i).stop).T i=_;rw[dk,fG hw]
   rw[W];show _=((s.gone i v kind x).dy i _).T i;rw[dk,H];show((s.dy i _).T i).stop=_;rw[dk];rfl
  rw[nW _ v kind x e,lV s e,lV _ e,nW s v kind x e]
 have G:∀a b:Pl,a.nt=b.nt->a.T=b.T->a.q=b.q->a.lv=b.lv->a.out=b.out->a.kp=b.kp->a.ev=b.ev->a.fA=b.fA->a.sp=b.sp->a.clk=b.clk->a.kd=b.kd->a.M=b.M->a.ck=b.ck->a=b:=by
  rintro⟨⟩ ⟨⟩;simp only;rintro rfl rfl rfl rfl rfl rfl rfl rfl rfl rfl rfl rfl rfl;rfl
 have u:=fG y;have o:=fG hw;refine G _ _ ?_ J ?_ rfl ?_ ?_ ?_ ?_ ?_ ?_ ?_ ?_ ?_
 .rw[jU];show s.nt=(s.gone t v kind x).nt;rw[jU]
 .show((s.pop t).dA t).q=(s.dA t).q;rw[u,o];rfl
 .show((s.pop t).dA t).out.set (t-1) v=(s.dA t).out.set (t-1) v;rw[u,o];rfl
 .show ko ((s.pop t).dA t).kp v=ko (s.dA t).kp v;rw[u,o];rfl
 .show((s.pop t).dA t).ev++_=(s.dA t).ev++_;rw[u,o];rfl
 .show((s.pop t).dA t).fA=(s.dA t).fA;rw[u,o];rfl
 .show((s.pop t).dA t).sp=(s.dA t).sp;rw[u,o];rfl
 .show((s.pop t).dA t).clk=(s.dA t).clk;rw[u,o];rfl
 .show((s.pop t).dA t).kd=(s.dA t).kd;rw[u,o];rfl
 .show((s.pop t).dA t).M=(s.dA t).M;rw[u,o];rfl
 show((s.pop t).dA t).ck=(s.dA t).ck;rw[u,o];rfl
theorem Pl.ext'{a b:Pl}(Y:a.nt=b.nt)(J:a.T=b.T)(H:a.q=b.q)(G:a.lv=b.lv)(h5:a.out=b.out)(Z:a.kp=b.kp)(W:a.ev=b.ev)(h8:a.fA=b.fA)(y:a.sp=b.sp)(u:a.clk=b.clk)(o:a.kd=b.kd)(e:a.M=b.M)(i:a.ck=b.ck):a=b:=by
 obtain⟨⟩:=a;simp_all
theorem xE(l:List jq)(i:Nat)(f:jq)(hi:i+1<l.length):(l.set i f).dropLast=l.dropLast.set i f:=by
 apply List.ext_getElem?
 grind
theorem EZ(hi:i+1<(s.T t).fr.length):(s.pop t).dM t i f=(s.dM t i f).pop t:=by
 refine Pl.ext' rfl ?_ rfl rfl rfl rfl rfl rfl rfl rfl rfl rfl rfl;funext u
 grind[Pl.dM,Pl.pop,dk,qY.mR,xE,qO,lV]
theorem fN.back{p:dH}{s:Pl}(h:Ok p s){t:Nat}(i:t∈s.lv)(hw:(s.T t).wh=none){v:B.V}(J:dV p s v):Ok p (s.back t v):=by
 unfold Pl.back;by_cases e:de s t=0
 .rw[bf e];unfold Pl.leave;rw[rP hw];have y:t∉(s.gone t v 2 v.2).lv:=by rw[(iX s t v 2 v.2).1,h.nd.mem_erase_iff];exact λh=>h.1 rfl
  have G:Ok p ((s.gone t v 2 v.2).pop t):=((h.gone i J 2 v.2<|λ_ _ h=>h).pop (by grind[qv,kD])<|λu o=>⟨trivial,ag o⟩).JS<|λu o _ e=>y<|e▸o;refine G.ep _ (λu o=>?_) (λ_ _=>trivial) ?_
  .exact(eB<|jU s t v 2 v.2).2 (h.lw.b 5 t (ak<|ak<|ak ⟨rfl,h.lt t i⟩) u o).1
  show v.1=0\/v∈(s.gone t v 2 v.2).kp;grind[iX,lZ]
 rw[av e];have Z:2<=(s.T t).fr.length:=by unfold de at e;omega
 rw[EZ<|by grind[de]];refine(h.oZ i trivial (by grind[de]) _ J).pop (by grind[gO])<|λu _=>⟨trivial,ak ?_⟩;grind[gO]
theorem nO(s:Pl)(t:Nat)(v:B.V):(de s t=0->(s.back t v).lv=s.lv.erase t/\(s.back t v).ev=s.ev++[(2,t,v.2)]/\(s.back t v).nt=s.nt)/\(de s t≠0->(s.back t v).lv=s.lv/\(s.back t v).ev=s.ev/\(s.back t v).nt=s.nt/\(s.back t v).q=s.q):=by
 unfold Pl.back;constructor
 .intro e;rw[bf e];exact vj (s.pop t) t v 2 v.2
 intro e;rw[av e];exact⟨rfl,rfl,rfl,rfl⟩
theorem dV.mono(i:s'.M=s.M)(G:∀v,tw p s v->tw p s' v)(h:dV p s v):dV p s' v:=by
 have e:∀u,u∈eH p s->B.px (eH p s') s'.M u:=λu o=>B.px.mem<|iD.2<|G u<|iD.1 o;unfold dV;rcases h with h|h|⟨k,y,h⟩
 .exact ag h
 .grind
 refine ak<|ak ⟨k,?_,ey⟩;grind[B.uQ]
theorem fN.more{p:dH}{s:Pl}(h:Ok p s)(hn:s.nt+1<=500000000):fN p s.more (λu=>u≠s.nt+1):=by
 have W:∀u,u≠s.nt+1->s.more.T u=s.T u:=λu e=>ot s e;have H:s.more.T (s.nt+1)=sP:=mZ s
 have G:∀u,ft s u->u≠s.nt+1:=λu o e=>by have:=o.2;omega
 have Z:∀u j,u≠s.nt+1->du s.more u j=du s u j:=λu j e=>gK ey;refine⟨h.lw.more hn,λu o x y hx a0=>?_,?_,λu o=>?_,λx y Y a J=>?_,λu o Y=>?_,λu o hr=>?_,?_,λv hv=>?_,h.kn,h.kz,λu o hX=>?_,h.roots rfl rfl ?_,h.fc,h.bt,h.c0,h.c1⟩
 .rcases kZ.1 o with i|i
  .rw[W u<|G u i]at hx⊢;rw[Z u _<|G u i];exact h.ww u i x y hx a0
  rw[i,H]at hx;cases hx
 .exact qT h.nd<|λhm=>by grind[F.fN.lt]
 .rcases ed.1 (show u∈s.lv++[s.nt+1] from o) with i|i
  .grind[F.kZ,F.fN.lt]
  grind[F.kZ]
 .show a∈s.lv++[s.nt+1];rcases qo.1 Y with i|⟨rfl,rfl⟩
  .have hq:s.more.q x y=s.q x y:=sf s (λe=>by
    grind[nV])
   grind[List.mem_append_left,F.fN.ql]
  have hq:s.more.q 5 (s.nt+1)=[]:=ve s;grind
 .rcases kZ.1 o with i|i
  .grind[F.fN.lf]
  rw[i,H]at Y;exact dr rfl Y
 .rcases kZ.1 o with i|i
  .rw[W u<|G u i]at hr⊢;have:=h.rn u i hr;exact⟨this.1,eO _ this.2⟩
  rw[i,H]at hr;cases hr
 .show(s.out++[(0,0)]).length=s.nt+1;rw[db,h.ol];rfl
 .rcases ed.1 (show v∈s.out++[(0,0)] from hv) with i|i
  .exact h.ok v i
  grind
 .rcases ed.1 (show u∈s.lv++[s.nt+1] from o) with i|i
  .rw[W u hX];exact h.fw u i trivial
  grind
 rintro v (⟨u,j,a,o,hj,J,e⟩|hv)
 .by_cases e1:u=s.nt+1
  .rw[e1,H]at hj;exact dr hj<|Nat.not_lt_zero _
  rw[Z u j e1]at J e;rw[W u e1]at hj;rcases ed.1 (show u∈s.lv++[s.nt+1] from o) with i|i
  .exact dV.root<|ag ⟨u,j,a,i,hj,J,e⟩
  grind
 exact dV.root<|ak hv
theorem zz(h:Ok p s)(H:dV p s v):dV p s.more v:=by
 refine dV.mono (s:=s) (s':=s.more) rfl (λu i=>?_) H;rcases i with⟨c,j,a,G,J,W,e⟩|i
 .have y:s.more.T c=s.T c:=ot s (λe=>by have:=(h.lt c G).2;omega);refine ag ⟨c,j,a,eO _ G,ey,?_,?_⟩
  .grind[gK]
  grind[gK]
 exact ak i
theorem rE(e:dV p s u)(i:dV p s v)(a:Nat):dV p s (iz u v a):=by
 grind[iz,dV.num]
theorem fN.born(h:Ok p s)(hn:s.nt+1<=500000000){f:Nat}(y:f<p.nf)(o:dV p s u)(G:dV p s v):Ok p (s.born f u v):=by
 have i:s.more.T (s.nt+1)=sP:=mZ s;exact((h.more hn).push (kh i) (by rw[i];decide) (ag<|kh i) y (di _) (λe=>dr (kh i) e) (λa _=>rE (zz h o) (zz h G) a)<|λ_ e _=>e).dX (show s.nt+1∈s.lv++[s.nt+1] by simp)
def uw(s:Pl)(f:Nat)(u v:B.V):(s.born f u v).lv=s.lv++[s.nt+1]/\(s.born f u v).ev=s.ev/\(s.born f u v).kp=s.kp/\(s.born f u v).M=s.M:=by
 let⟨k1,_,e,_,_,_,o,_,i,_⟩:=ja (s.more.push (s.nt+1) ⟨f,0,iz u v,(0,0,0,0)⟩) 2 0<|s.nt+1;exact⟨k1,i,e,o⟩
def Pl.uS(s:Pl)(a i:Nat)(v:B.V):Pl:={s with kd:=B.told s.kd<|(s.M a).getD i (0,0),M:=B.lay s.M a ((s.M a).set i v)}
def fN.uS{X:Nat->Prop}(h:fN p s X){a:Nat}(o:B.nz (eH p s) s.M a)(e:dV p s v):fN p (s.uS a i v) X:=
 {lw:=h.lw.same rfl rfl (λ_=>rfl),ww:=h.ww,nd:=h.nd,lt:=h.lt,ql:=h.ql,lf:=h.lf,rn:=h.rn,ol:=h.ol,ok:=h.ok,kn:=h.kn,kz:=h.kz,fw:=h.fw,hl:=B.Dq h.hl i o e,fc:=h.fc,bt:=h.bt,c0:=h.c0,c1:=h.c1}
def Pl.pq(s:Pl)(kd1:B.Kd)(c ty:Nat)(l:List B.V):Pl:={s with kd:=B.laid kd1 c,M:=B.lay s.M c l,ck:=λk=>if k=c then ty else s.ck k}
theorem fN.pq(h:Ok p s){a c ty:Nat}{i:B.Kd}{l:List B.V}(a4:t∈s.lv)(hk:B.kQ i p.n (eH p s) s.M)(hs:∀k,1<=k->k<=p.n->i.on k=true->s.kd.on k=true)(h1:1<=c)(h2:c<=p.n)(h3:i.on c=false)(a5:ty<=p.nf)(hl:∀v,v∈l->dV p s v):Ok p ((s.pq i c ty l).dM t (de s t)<|(du s t<|de s t).set a (c,0)):=by
 have hi:de s t<(s.T t).fr.length:=by
  have:(s.T t).fr.length≠0:=λe=>(h.fw t a4 trivial).n1<|dh.1 e;unfold de;omega
 have hw:=λu=>gO s t (de s t) u<|(du s t<|de s t).set a (c,0);have W:∀u j,(du (s.dM t (de s t)<|(du s t<|de s t).set a (c,0)) u j).f=(du s u j).f:=λu j=>by
  by_cases e:u=t/\j=de s t
  .obtain⟨rfl,rfl⟩:=e;rw[mJ s _ hi];rfl
  grind[mi]
 have a2:∀u,(s.T u).fr≠[]->((s.dM t (de s t)<|(du s t<|de s t).set a (c,0)).T u).fr≠[]:=λu h0 e=>h0 (by
  grind)
 refine {lw:=(h.lw.dM t (de s t)<|(du s t<|de s t).set a (c,0)).same rfl rfl (λ_=>rfl),ww:=?_,nd:=h.nd,lt:=h.lt,ql:=h.ql,lf:=?_,rn:=?_,ol:=h.ol,ok:=h.ok,kn:=h.kn,kz:=h.kz,fw:=?_,hl:=?_,fc:=?_,bt:=h.bt,c0:=h.c0,c1:=h.c1}
 .intro u o x y hx a1;let⟨k,k1,k2,k3⟩:=h.ww u o x y ((hw u).1.symm.trans hx) a1;refine⟨k,(hw u).2.1.trans k1,a2 u k2,?_⟩;show k.2.1<p.rg (du (s.dM t (de s t)<|(du s t<|de s t).set a (c,0)) u<|((s.dM t (de s t)<|(du s t<|de s t).set a (c,0)).T u).fr.length-1).f;grind
 .intro u o a6;let⟨x,y,e,Z⟩:=h.lf u o<|λe=>a6<|(hw u).2.1.trans e;exact⟨x,y,(hw u).1.trans e,Z⟩
 .intro u o hr;have:=h.rn u o<|(hw u).2.2.1.symm.trans hr;exact⟨(hw u).1.trans this.1,this.2⟩
 .intro u o _;have:=h.fw u o trivial;show FW p ((s.dM t (de s t)<|(du s t<|de s t).set a (c,0)).T u).fr;by_cases e:u=t
  .subst e;unfold Pl.dM;rw[dk];exact this.set hi rfl rfl (this.f _ hi).2
  grind[qO]
 .refine B.Dr (L:=eH p s) hk h1 h2 h3 hl<|λv hv=>?_;rcases iD.1 hv with⟨u,j,b,o,hj,hb,e⟩|hv
  .have H:=(hw u).2.2.2.2▸hj;have J:=(W u j)▸hb;have e':(du (s.dM t (de s t)<|(du s t<|de s t).set a (c,0)) u j).R b=v:=e;by_cases Z:u=t/\j=de s t
   .obtain⟨rfl,rfl⟩:=Z;rw[mJ s _ hi]at e';have Y:B.set (du s u<|de s u).R a (c,0) b=v:=e';by_cases e4:b=a
    .subst e4;rw[B.jZ]at Y;exact ag Y.symm
    rw[B.jl _ _ _ _ e4]at Y;exact ak<|dV.root<|ag ⟨u,_,b,o,H,J,Y⟩
   rw[mi s _ Z]at e';exact ak<|dV.root<|ag ⟨u,j,b,o,H,J,e'⟩
  exact ak<|dV.root<|ak hv
 intro k k1 k2 a0;show(if k=c then ty else s.ck k)<=p.nf;by_cases e:k=c
 .rw[bf e];exact a5
 rw[av e];have G:B.mark i.on c k=true:=a0;rw[B.gg _ _ _ e]at G;exact h.fc k k1 k2<|hs k k1 k2 G
def Pl.vU(s:Pl)(kd:B.Kd):Pl:={s with kd:=kd}
def fN.vU{X:Nat->Prop}(h:fN p s X){kd:B.Kd}(e:B.kQ kd p.n (eH p s) s.M)(o:∀k,1<=k->k<=p.n->kd.on k=true->s.kd.on k=true):fN p (s.vU kd) X:=
 {lw:=h.lw.same rfl rfl (λ_=>rfl),ww:=h.ww,nd:=h.nd,lt:=h.lt,ql:=h.ql,lf:=h.lf,rn:=h.rn,ol:=h.ol,ok:=h.ok,kn:=h.kn,kz:=h.kz,fw:=h.fw,hl:=e,fc:=λk k1 k2 i=>h.fc k k1 k2<|o k k1 k2 i,bt:=h.bt,c0:=h.c0,c1:=h.c1}
theorem fN.stop{p:dH}{s:Pl}{X:Nat->Prop}(h:fN p s X){t:Nat}(G:t∈s.lv):fN p (s.dy t (s.T t).stop) X:=by
 have ht:=h.lt t G;have i:(s.dy t (s.T t).stop).T t=(s.T t).stop:=dk _ _ _;have o:∀u,((s.dy t (s.T t).stop).T u).wh=(s.T u).wh:=λu=>by
  by_cases e:u=t
  .subst e;rw[i];rfl
  grind[dU]
 refine h.line G rfl (h.lw.same rfl rfl o) (λu e=>dU _ _ e) (kh i) (λ_ _ _ _ h=>ag h) ⟨rfl,rfl,rfl,rfl,rfl,rfl,rfl,rfl⟩ (λx y W H=>?_) (λY=>?_) (λJ=>?_)
 .rw[o]at W;let⟨k,k1,k2,Z⟩:=h.ww t ht x y W H;exact⟨k,eZ i k1,k2,Z⟩
 .rw[i]at Y;let⟨x,y,e,e2⟩:=h.lf t ht Y;grind
 rw[i]at J;cases J
def Pl.mF(s:Pl)(t:Nat):Pl:={s.dy t (s.T t).stop with sp:=true,ev:=s.ev++[(5,t,0)]}
def fN.mF{X:Nat->Prop}(h:fN p s X)(e:t∈s.lv):fN p (s.mF t) X:=(h.stop e).same rfl rfl rfl rfl rfl rfl rfl rfl rfl rfl rfl
theorem fN.told{X:Nat->Prop}(h:fN p s X)(kind t:Nat)(x:Int):fN p (s.told kind t x) X:=h.same rfl rfl rfl rfl rfl rfl rfl rfl rfl rfl rfl
theorem fN.fR  {X:Nat->Prop} (h:fN p s X) (k:Nat) (l:List Nat) (hl:l.length<=1000/\∀ x,x∈l->x<256):fN p (s.fR k l) X:=
  {lw:=h.lw.same rfl rfl (fun _=>rfl),ww:=h.ww,nd:=h.nd,lt:=h.lt,ql:=h.ql,lf:=h.lf,rn:=h.rn,ol:=h.ol,ok:=h.ok,kn:=h.kn,kz:=h.kz,fw:=h.fw,hl:=h.hl,fc:=h.fc,bt:=fun i=>by
      show ((if i=k then l else s.fA i)).length<=1000/\∀ x,x∈(if i=k then l else s.fA i)->x<256
      by_cases e:i=k
      · grind
      · rw[av e];exact h.bt i,c0:=h.c0,c1:=h.c1}
def lh(l:List uz):List Nat:=(l.filter<|λe=>e.1 == 2 || e.1 == 3 || e.1 == 4).map (·.2.1)
def JC(t:Nat)(gone:List Nat):List uz->Prop
 | []=>True
 |e :: l=>e.2.1∉gone/\(e.1≠4->e.2.1=t)/\JC t (gone++lh [e]) l
theorem wU(l m:List uz):lh (l++m)=lh l++lh m:=by grind[lh]
theorem Ca{t:Nat}:∀(l m:List uz) (gone:List Nat),JC t gone l->JC t (gone++lh l) m->JC t gone (l++m)
 | [],m,gone,_,h=>by
  grind[lh]
 | e :: l,m,gone,h1,h2=>by
  refine⟨h1.1,h1.2.1,Ca l m _ h1.2.2 ?_⟩;rw[fU,<-wU];exact h2
def Pe(l:List uz):Prop:=∀e,e∈l->e.1≠4
def Gn(s:Pl)(gone:List Nat):Prop:=∀u,u∈gone->ft s u/\u∉s.lv
def Go(t c:Nat)(s s':Pl):Prop:=∃l,s'.ev=s.ev++l/\l.length<=c/\(s.nt<=s'.nt/\s'.nt<=s.nt+c)/\(∀gone,Gn s gone->JC t gone l/\Gn s' (gone++lh l))/\(Pe l->∃m,s'.q 2 0=s.q 2 0++m)
theorem Go.trans{c:Nat}{i:Pl}(h:Go t c s s')(J:Go t d s' i):Go t (c+d) s i:=by
 obtain⟨l,a1,a2,a3,Y,Z⟩:=h;obtain⟨m,H,b2,b3,b4,o⟩:=J;refine⟨l++m,ey,ey,af,λgone hg=>?_,λhn=>?_⟩
 .grind[Ca,wU,List.append_assoc]
 let⟨x,W⟩:=Z<|λe he=>hn e<|eO _ he;let⟨y,G⟩:=o<|λe he=>hn e<|List.mem_append_right _ he;grind
theorem Go.mono{c:Nat}(h:Go t c s s')(o:c<=d):Go t d s s':=by
 obtain⟨l,e,y,u,i⟩:=h;exact⟨l,e,af,af,i⟩
theorem Go.quiet(he:s'.ev=s.ev)(G:s'.lv=s.lv)(hn:s'.nt=s.nt)(y:∃m,s'.q 2 0=s.q 2 0++m):Go t 0 s s':=by
 refine⟨[],ey,bm _,af,λgone o=>⟨trivial,λu i=>?_⟩,λ_=>y⟩;have e:u∈gone:=by
  unfold lh at i;simpa using i
 exact⟨(eB hn).2 (o u e).1,by rw[G];exact(o u e).2⟩
theorem Go.same(he:s'.ev=s.ev)(i:s'.lv=s.lv)(hn:s'.nt=s.nt)(e:s'.q 2 0=s.q 2 0):Go t 0 s s':=Go.quiet he i hn ⟨[],ey⟩
theorem Go.Jl{x:Int}(G:k=1\/k=5)(i:t∈s.lv)(he:s'.ev=s.ev++[(k,t,x)])(W:s'.lv=s.lv)(hn:s'.nt=s.nt)(H:s'.q 2 0=s.q 2 0):Go t 1 s s':=by
 have o:lh [(k,t,x)]=[]:=by rcases G with rfl|rfl<;>rfl
 refine⟨[(k,t,x)],he,bm _,af,λgone y=>⟨⟨λJ=>(y t J).2 i,λ_=>rfl,trivial⟩,λu e=>?_⟩,λ_=>⟨[],ey⟩⟩;rw[o,gY]at e;exact⟨(eB hn).2 (y u e).1,by rw[W];exact(y u e).2⟩
theorem Go.ends{u:Nat}{x:Int}(W:(k=2/\u=t)\/(k=3/\u=t)\/k=4)(y:u∈s.lv)(hu:ft s u)(H:s.lv.Nodup)(he:s'.ev=s.ev++[(k,u,x)])(Z:s'.lv=s.lv.erase u)(hn:s'.nt=s.nt)(hq:k≠4->∃m,s'.q 2 0=s.q 2 0++m):Go t 1 s s':=by
 have G:lh [(k,u,x)]=[u]:=by rcases W with⟨rfl,_⟩|⟨rfl,_⟩|rfl<;>rfl
 refine⟨[(k,u,x)],he,bm _,af,λgone J=>⟨⟨λi=>(J u i).2 y,λh4=>?_,trivial⟩,λa Y=>?_⟩,λhc=>hq<|hc (k,u,x) eG⟩
 .grind
 rw[G]at Y;rcases ed.1 Y with o|o
 .refine⟨(eB hn).2 (J a o).1,λi=>(J a o).2 ?_⟩;grind
 grind[eB]
theorem Go.born(he:s'.ev=s.ev)(W:s'.lv=s.lv++[s.nt+1])(hn:s'.nt=s.nt+1)(J:∃m,s'.q 2 0=s.q 2 0++m):Go t 1 s s':=by
 refine⟨[],ey,di _,af,λgone H=>⟨trivial,λu y=>?_⟩,λ_=>J⟩;have i:u∈gone:=by
  unfold lh at y;simpa using y
 have:=(H u i).1;refine⟨⟨this.1,gD this.2⟩,λG=>?_⟩;rw[W]at G;rcases ed.1 G with o|o
 .exact(H u i).2 o
 have e:u=s.nt+1:=iE o
 have:=this.2;omega
theorem ox(hw:(s.T t).wh≠some (2,0)):(s.dX 2 0 t).q 2 0=s.q 2 0++[t]:=by
 show((s.dA t).fI 2 0<|(s.dA t).q 2 0++[t]).q 2 0=_;grind[gM,sZ]
theorem FG{a b:Nat}(hw:(s.T t).wh≠some (a,b))(h:¬(a=x/\b=y)):(s.dX x y t).q a b=s.q a b:=by
 show((s.dA t).fI x y _).q a b=_;grind[gf,sZ]
theorem A7{X:Nat->Prop}(h:fN p s X)(ht:ft s t)(v:B.V):∃m,(s.gk t v).q 2 0=s.q 2 0++m:=by
 unfold Pl.gk;split
 .simp_all
 rename_i k i;let⟨x,y,hw,o⟩:=h.lf t ht ey;refine⟨[t],ox ?_⟩;grind[gO]
theorem qK{p:dH}{X:Nat->Prop}{v:B.V}:∀(l:List Nat) {s:Pl},fN p s X->(∀u,u∈l->ft s u)->(∀u,u∈s.lv->X u)->(v.1=0\/v∈s.kp)->∃m,(s.ep v l).q 2 0=s.q 2 0++m
 | [],s,_,_,_,_=>⟨[],kh gY⟩
 | t :: l,s,h,hl,hX,hv=>by
  obtain⟨H,_,y,_⟩:=pZ s t v;obtain⟨m,G⟩:=A7 h (hl t eG) v;obtain⟨m',o⟩:=qK l (h.gk (hl t eG) (hX t)<|hv.elim (λe=>ag e)<|λe=>dV.root<|ak e) (λu i=>(eB<|oK s t v).2<|hl u<|by simp[i]) (λu i=>hX u ey)<|eZ y hv;exact⟨m++m',by show((s.gk t v).ep v l).q 2 0=_;grind⟩
theorem FA{X:Nat->Prop}(h:fN p s X)(i:t∈s.lv)(hX:∀u,u≠t->X u)(hw:(s.T t).wh=none)(y:dV p s v)(kind:Nat)(x:Int):∃m,(s.leave t v kind x).q 2 0=s.q 2 0++m:=by
 let⟨m,G⟩:=qK (v:=v) (s.q 5 t) (h.gone i y kind x<|λu o _=>hX u o) (λu o=>(eB<|jU s t v kind x).2 (h.lw.b 5 t (ak<|ak<|ak ⟨rfl,h.lt t i⟩) u o).1) (λ_ _=>trivial) (by
  grind[iX,lZ])
 refine⟨m,?_⟩;show((s.gone t v kind x).ep v<|s.q 5 t).q 2 0=_;grind[iX,fG]
theorem Cd(h:Ok p s)(o:t∈s.lv)(hw:(s.T t).wh=none)(W:dV p s v):∃m,(s.back t v).q 2 0=s.q 2 0++m:=by
 by_cases e:de s t=0
 .unfold Pl.back;rw[bf e];unfold Pl.leave;rw[rP hw];have y:t∉(s.gone t v 2 v.2).lv:=by rw[(iX s t v 2 v.2).1,h.nd.mem_erase_iff];exact λh=>h.1 rfl
  have J:fN p ((s.gone t v 2 v.2).pop t) (λu=>u≠t):=(h.gone o W 2 v.2<|λ_ _ h=>h).pop (by grind[qv,kD])<|λu i=>⟨trivial,ag i⟩;let⟨m,Y⟩:=qK (v:=v) ((s.pop t).q 5 t) (J.JS<|λu i _ e=>y<|e▸i) (λu i=>(eB<|jU s t v 2 v.2).2 (h.lw.b 5 t (ak<|ak<|ak ⟨rfl,h.lt t o⟩) u i).1) (λ_ _=>trivial) (by
   show v.1=0\/v∈(s.gone t v 2 v.2).kp;grind[iX,lZ])
  refine⟨m,Y.trans ?_⟩;show(s.gone t v 2 v.2).q 2 0++m=_;grind[iX,fG]
 exact⟨[],by grind[nO]⟩
theorem Go.back(h:Ok p s)(i:t∈s.lv)(hw:(s.T t).wh=none)(u:dV p s v):Go t 1 s (s.back t v):=by
 by_cases e:de s t=0
 .grind[nO,Go.ends,Cd,F.fN.lt,F.fN.nd]
 let⟨k1,k2,o,_⟩:=(nO s t v).2 e;exact(Go.quiet k2 k1 o<|Cd h i hw u).mono af
end F
namespace F
abbrev vV:=Nat×Nat×Nat×Nat
def GV(s:Pl)(x y:B.V):Prop:=x.1≠0/\s.ck x.1=0/\y.1=0/\0<=y.2/\y.2<((s.M x.1).length:Int)
def oL(s:Pl)(x y:B.V):Nat:=if x.1=0\/s.ck x.1≠0 then 2 else if y.1≠0 then 1 else 3
def mG(p:dH)(s:Pl)(t a ty:Nat)(l:List B.V)(s':Pl):Prop:=
 (∃(c:Nat) (kd1:B.Kd),1<=c/\c<=p.n/\kd1.on c=false/\B.kQ kd1 p.n (eH p s) s.M/\JJ (eH p s).length p.n (B.n6 (eH p s) s.M) s.kd kd1/\s'=(s.pq kd1 c ty l).dM t (de s t) ((bz s t).set a (c,0))) \/
 ((∀c,1<=c->c<=p.n->B.nz (eH p s) s.M c)/\∃kd1,(B.kQ kd1 p.n (eH p s) s.M/\NW s.kd kd1)/\s'=(s.vU kd1).mF t)
def xu(s:Pl)(t o a b c:Nat)(why:Int)(s':Pl):Prop:=
 (G4 s t b c/\why=0/\s'=qS s t a (arith o ((bz s t).R b).2 ((bz s t).R c).2))\/(¬G4 s t b c/\why=1/\s'=s)
def ku(p:dH)(s:Pl)(t:Nat)(k:vV)(why:Int)(s':Pl):Prop:=
 match k.1 with
 |0=>why=0/\s'=qS s t k.2.1 (B.wide k.2.2.1 k.2.2.2)
 |1=>why=0/\s'=s.dM t (de s t) ((bz s t).set k.2.1<|(bz s t).R k.2.2.1)
 |2=>xu s t 2 k.2.1 k.2.2.1 k.2.2.2 why s'
 |3=>xu s t 3 k.2.1 k.2.2.1 k.2.2.2 why s'
 |4=>xu s t 4 k.2.1 k.2.2.1 k.2.2.2 why s'
 |5=>xu s t 5 k.2.1 k.2.2.1 k.2.2.2 why s'
 |6=>why=0/\s'=qS s t k.2.1 (if(bz s t).R k.2.2.1=(bz s t).R k.2.2.2 then 1 else 0)
 |7=>why=0/\s'=s.dM t (de s t) {bz s t with nx:=256*k.2.2.1+k.2.2.2}
 |8=>why=0/\s'=s.dM t (de s t) {bz s t with nx:=if(bz s t).R k.2.1=(0,0) then 256*k.2.2.1+k.2.2.2 else(bz s t).nx}
 |9=>why=0/\mG p s t k.2.1 0 (List.replicate k.2.2.1 (0,0)) s'
 |10=>(GV s ((bz s t).R k.2.2.1) ((bz s t).R k.2.2.2)/\why=0/\s'=s.dM t (de s t) ((bz s t).set k.2.1<|(s.M ((bz s t).R k.2.2.1).1).getD ((bz s t).R k.2.2.2).2.toNat (0,0)))\/(¬GV s ((bz s t).R k.2.2.1) ((bz s t).R k.2.2.2)/\why=(oL s ((bz s t).R k.2.2.1) ((bz s t).R k.2.2.2):Nat)/\s'=s)
 |11=>(GV s ((bz s t).R k.2.1) ((bz s t).R k.2.2.1)/\why=0/\s'=s.uS ((bz s t).R k.2.1).1 ((bz s t).R k.2.2.1).2.toNat ((bz s t).R k.2.2.2))\/(¬GV s ((bz s t).R k.2.1) ((bz s t).R k.2.2.1)/\why=(oL s ((bz s t).R k.2.1) ((bz s t).R k.2.2.1):Nat)/\s'=s)
 |12=>why=0/\mG p s t k.2.1 (k.2.2.1+1) [(bz s t).R k.2.2.2] s'
 |13=>why=sy (fD s<|(bz s t).R k.2.2.1).2.2 (s.T t).fr.length/\s'=mH s t k
 |14=>why=0/\s'=s.back t ((bz s t).R k.2.1)
 |15=>why=kT (fD s<|(bz s t).R k.2.2.1).2.2 s.lv.length p.mt/\s'=lR p s t k
 |16=>why=0/\s'=s.dX 2 0 t
 |17=>why=(jk s t k.2.1).1/\s'=(jk s t k.2.1).2
 |18=>why=(jd s t k).1/\s'=(jd s t k).2
 |19=>why=(iu s t k.2.1).1/\s'=(iu s t k.2.1).2
 |20=>why=(jY s t k.2.1).1/\s'=(jY s t k.2.1).2
 |21=>why=(kM s t k).1/\s'=(kM s t k).2
 |22=>why=0/\s'=qS s t k.2.1 s.clk
 |_=>False
def LR(p:dH)(f:Nat)(k:vV):Prop:=
 k.1<23/\k.2.1<256/\k.2.2.1<256/\k.2.2.2<256/\(k.1≠7->k.1≠16->k.2.1<p.rg f)/\(k.1=1\/(2<=k.1/\k.1<=6)\/k.1=10\/k.1=11\/k.1=13\/k.1=15\/k.1=18\/k.1=21->k.2.2.1<p.rg f) /\
 ((2<=k.1/\k.1<=6)\/k.1=10\/k.1=11\/k.1=12\/k.1=13\/k.1=15->k.2.2.2<p.rg f)/\(k.1=7\/k.1=8->256*k.2.2.1+k.2.2.2<=p.len f)/\(k.1=9->k.2.2.1<=8)/\(k.1=12->k.2.2.1<p.nf)
structure Rn(p:dH) (s:Pl) (t:Nat):Prop where
 ok:Ok p s
 lv:t∈s.lv
 run:(s.T t).run=true
section
variable {p:dH}{s:Pl}{t:Nat} (h:Rn p s t)
include h
theorem Rn.ht:ft s t:=h.ok.lt t h.lv
theorem Rn.wh:(s.T t).wh=none:=(h.ok.rn t h.ht h.run).1
theorem Rn.fw:FW p (s.T t).fr:=h.ok.fw t h.lv trivial
theorem Rn.hi:de s t<(s.T t).fr.length:=by
 have:(s.T t).fr.length≠0:=λe=>h.fw.n1<|dh.1 e;grind[de]
theorem Rn.lf:(s.T t).lf=none:=by
 cases hl:(s.T t).lf with
 |none=>rfl
 |some k=>
  let⟨x,y,e,_⟩:=h.ok.lf t h.ht ey;rw[h.wh]at e;cases e
theorem Rn.iB:In s t:=⟨h.ht,h.hi⟩
theorem Rn.n9{a:Nat}(e:a<p.rg (bz s t).f):dV p s ((bz s t).R a):=dV.root<|ag ⟨t,de s t,a,h.lv,h.hi,e,rfl⟩
theorem Rn.ff:(bz s t).f<p.nf/\(bz s t).nx<=p.len (bz s t).f:=h.fw.f _ h.hi
theorem Rn.oZ(a:Nat){v:B.V}(e:dV p s v):Ok p (s.dM t (de s t)<|(bz s t).set a v):=h.ok.oZ h.lv trivial h.hi a e
end
variable {k:vV}{l:List Nat}{p:dH}{s s':Pl}{t:Nat}
theorem vq{a:Nat}(e:B.nz (eH p s) s.M a)(i:Nat):dV p s ((s.M a).getD i (0,0)):=by
 by_cases hi:i<(s.M a).length
 .refine ak<|ak ⟨a,e,?_⟩;grind
 grind[List.getElem?_eq_none,dV.num]
theorem qw{X:Nat->Prop}(h:fN p s X){x:B.V}(hx:dV p s x)(i:(fD s x).2.2=true):(fD s x).1<p.nf/\dV p s (fD s x).2.1:=by
 by_cases e:x.1=0\/s.ck x.1=0
 .grind[fD]
 have o:=h.Al hx;have y:x.1≠0:=λu=>e<|ag u;have Y:s.ck x.1≠0:=λu=>e<|ak u;rcases o with o|⟨G,J,H,_⟩
 .omega
 have W:=h.fc x.1 G J H;unfold fD;rw[av e];exact⟨af,vq (B.px.vS hx y) 0⟩
theorem JJ.dn{e:B.Kd}(h:JJ (eH p s).length p.n (B.n6 (eH p s) s.M) s.kd e)(k:Nat)(k1:1<=k)(k2:k<=p.n)(i:e.on k=true):s.kd.on k=true:=by
 rcases h with h|h
 .grind
 grind
def BI{a ty:Nat}{l:List B.V}(h:Rn p s t)(i:ty<=p.nf)(y:∀v,v∈l->dV p s v)(H:mG p s t a ty l s'):Ok p s'/\Go t 1 s s':=by
 rcases H with⟨c,kd1,e,o,u,J,Y,rfl⟩|⟨e,kd1,o,rfl⟩
 .exact⟨h.ok.pq h.lv J Y.dn e o u i y,(Go.same rfl rfl rfl rfl).mono af⟩
 have W:Ok p (s.vU kd1):=h.ok.vU o.1<|λk k1 k2 _=>(B.nJ h.ok.hl<|e k k1 k2).1;exact⟨W.mF h.lv,Go.Jl (ak rfl) h.lv rfl rfl rfl rfl⟩
theorem xR{a:Nat}(h:Rn p s t)(x:Int):Ok p (qS s t a x)/\Go t 1 s (qS s t a x):=⟨h.oZ a<|dV.num x,(Go.same rfl rfl rfl rfl).mono af⟩
theorem fN.fO{p:dH}{s:Pl}{X:Nat->Prop}(h:fN p s X){t:Nat}(i:t∈s.lv)(u:Int):fN p (s.fO t u) X:=by
 have ht:=h.lt t i;have hw:=λa=>mV s t u a;refine h.line i rfl (h.lw.fO t u) (λu e=>dU _ _ e) (hw t).2.2.1 (λ_ _ _ _ h=>ag h) ⟨rfl,rfl,rfl,rfl,rfl,rfl,rfl,rfl⟩ (λx y H o=>?_) (λJ=>?_) (λG=>?_)
 .rw[(hw t).1]at H;let⟨k,k1,k2,W⟩:=h.ww t ht x y H o;grind
 .grind[F.fN.lf]
 grind[F.fN.rn]
theorem C1(k:Nat)(h:l.Nodup)(ht:t∉l):(l.take k++t :: l.drop k).Nodup:=by
 grind[List.perm_middle,List.take_append_drop,List.nodup_cons]
theorem Ip(k a:Nat):a∈l.take k++t :: l.drop k↔(a∈l\/a=t):=by
 grind[List.perm_middle,List.take_append_drop]
theorem EA(h:Rn p s t)(u:Int):Ok p (s.iw t u)/\Go t 1 s (s.iw t u):=by
 have G:Ok p (s.fO t u):=h.ok.fO h.lv u;have i:((s.fO t u).T t).wh=none:=by rw[(mV s t u t).1];exact h.wh
 have y:fQ (s.fO t u) 3 0:=ak<|ag ⟨rfl,rfl⟩;have o:t∉s.q 3 0:=G.lw.out y ey;refine⟨G.into h.lv y (ak rfl) (C1 _ (h.ok.lw.c 3 0 y) o)<|λa=>?_,(Go.same ?_ ?_ ?_ ?_).mono af⟩
 .rw[fG i];exact Ip _ a
 .show((s.fO t u).dA t).ev=_;rw[fG i];rfl
 .show((s.fO t u).dA t).lv=_;rw[fG i];rfl
 .show((s.fO t u).dA t).nt=_;rw[fG i];rfl
 show(((s.fO t u).dA t).fI 3 0<|(s.q 3 0).take (CZ (s.fO t u) u)++t :: (s.q 3 0).drop (CZ (s.fO t u) u)).q 2 0=_;rw[gf _ _ af,fG i];rfl
theorem Ba{x y:Nat}(hw:(s.T t).wh=none)(hx:x=4\/x=5):Go t 1 s (s.wait x y t k):=by
 let⟨k1,_,_,_,_,_,_,_,i,_⟩:=ja s x y t;refine(Go.same i k1 (iO s x y t) ?_).mono af;grind[FG]
theorem I3(h:Rn p s t)(u:k.2.1<p.rg (bz s t).f)(G:k.2.2.1<p.rg (bz s t).f)(y:k.2.2.2<p.rg (bz s t).f):Ok p (mH s t k)/\Go t 1 s (mH s t k):=by
 unfold mH;split
 .rename_i e;let⟨i,o⟩:=qw h.ok (h.n9 G) e.1;exact⟨h.ok.push h.wh (gD h.fw.n2) (ak h.fw) i (di _) (λ_=>u) (λa _=>rE (h.n9 y) o a)<|λ_ _ _=>trivial,(Go.same rfl rfl rfl rfl).mono af⟩
 exact⟨h.ok,(Go.same rfl rfl rfl rfl).mono af⟩
theorem Ey(h:Rn p s t)(hn:s.nt+1<=500000000)(hb:k.2.2.1<p.rg (bz s t).f)(J:k.2.2.2<p.rg (bz s t).f):Ok p (lR p s t k)/\Go t 1 s (lR p s t k):=by
 unfold lR;split
 .rename_i Y;let⟨Z,f2⟩:=qw h.ok (h.n9 hb) Y.1;have y:=qW s (fD s<|(bz s t).R k.2.2.1).1 ((bz s t).R k.2.2.2) (fD s<|(bz s t).R k.2.2.1).2.1 h.ht;let⟨u,G,_,_⟩:=uw s (fD s<|(bz s t).R k.2.2.1).1 ((bz s t).R k.2.2.2) (fD s<|(bz s t).R k.2.2.1).2.1;have o:du (s.born (fD s<|(bz s t).R k.2.2.1).1 ((bz s t).R k.2.2.2) (fD s<|(bz s t).R k.2.2.1).2.1) t (de s t)=bz s t:=gK (by rw[y]);have W:(s.born (fD s<|(bz s t).R k.2.2.1).1 ((bz s t).R k.2.2.2) (fD s<|(bz s t).R k.2.2.1).2.1).q 2 0=s.q 2 0++[s.nt+1]:=by
   have:=ox (s:=s.more.push (s.nt+1) ⟨(fD s<|(bz s t).R k.2.2.1).1,0,iz ((bz s t).R k.2.2.2) (fD s<|(bz s t).R k.2.2.1).2.1,(0,0,0,0)⟩) (t:=s.nt+1) (by
    rw[(rJ _ _ _ _).1];have:s.more.T (s.nt+1)=sP:=mZ s;rw[this];intro e;cases e)
   refine this.trans ?_;have:s.more.q 2 0=s.q 2 0:=sf s (a:=2) (b:=0) (λe=>by omega);show s.more.q 2 0++_=_;rw[this]
  refine⟨?_,Go.born G u (nN s _ _ _) ⟨_,W⟩⟩;have:=(h.ok.born hn Z (h.n9 J) f2).oZ (t:=t) (i:=de s t) (by rw[u];exact eO _ h.lv) trivial (eZ y h.hi) k.2.1 (v:=(0,((s.nt+1:Nat):Int))) (dV.num _);grind
 exact⟨h.ok,(Go.same rfl rfl rfl rfl).mono af⟩
theorem GB(h:Rn p s t)(y:k.2.1<p.rg (bz s t).f):Ok p (jd s t k).2/\Go t 1 s (jd s t k).2:=by
 have o:Ok p s/\Go t 1 s s:=⟨h.ok,(Go.same rfl rfl rfl rfl).mono af⟩;unfold jd;split
 .split
  .rename_i J;show Ok p (match ie s ((bz s t).R k.2.2.1).2 with|some u=>s.wait 5 u t k|none=>_)/\Go t 1 s (match ie s ((bz s t).R k.2.2.1).2 with|some u=>s.wait 5 u t k|none=>_)
   cases hf:ie s ((bz s t).R k.2.2.1).2 with
   |some u=>
    let⟨G,H⟩:=jV hf;exact⟨h.ok.wait h.lv trivial (ak<|ak<|ak ⟨rfl,h.ok.lt u G⟩) (ak rfl) (λe=>J.2 af) y,Ba h.wh<|ak rfl⟩
   |none=>
    refine⟨h.oZ k.2.1 ?_,(Go.same rfl rfl rfl rfl).mono af⟩;generalize W:((bz s t).R k.2.2.1).2.toNat-1=j;by_cases i:j<s.out.length
    .rw[cw,bw i];exact(h.ok.ok _<|List.getElem_mem i).elim (λe=>ag e)<|λe=>dV.root<|ak e
    grind[List.getElem?_eq_none,dV.num]
  exact o
 exact o
theorem DH{a:Nat}(h:Rn p s t):Ok p (iu s t a).2/\Go t 1 s (iu s t a).2:=by
 have o:Ok p s/\Go t 1 s s:=⟨h.ok,(Go.same rfl rfl rfl rfl).mono af⟩;unfold iu;split
 .split
  .show Ok p (match ie s ((bz s t).R a).2 with|some u=>s.leave u (0,-100) 4 0|none=>s)/\Go t 1 s (match ie s ((bz s t).R a).2 with|some u=>s.leave u (0,-100) 4 0|none=>s)
   cases hf:ie s ((bz s t).R a).2 with
   |some u=>
    let⟨i,G⟩:=jV hf;let⟨k1,k2,y⟩:=vj s u (0,-100) 4 0;exact⟨h.ok.leave i (λ_ _=>trivial) (dV.num _) 4 0,Go.ends (ak<|ak rfl) i (h.ok.lt u i) h.ok.nd k2 k1 y<|λe=>dr rfl e⟩
   |none=>exact o
  exact o
 exact o
theorem Hz(h:Rn p s t)(H:k.2.1<p.rg (bz s t).f):Ok p (kM s t k).2/\Go t 1 s (kM s t k).2:=by
 have o:Ok p s/\Go t 1 s s:=⟨h.ok,(Go.same rfl rfl rfl rfl).mono af⟩;unfold kM;split
 .split
  .rename_i J;generalize hz:((bz s t).R k.2.2.1).2.toNat=z
   show Ok p (match s.fA z with|x :: bs=>(s.fR z bs).dM t (de s t) ((bz s t).set k.2.1 (0,(x:Int)))|[]=>s.wait 4 z t k)/\Go t 1 s (match s.fA z with|x :: bs=>(s.fR z bs).dM t (de s t) ((bz s t).set k.2.1 (0,(x:Int)))|[]=>s.wait 4 z t k)
   cases hb:s.fA z with
   |nil=>exact⟨h.ok.wait h.lv trivial (ak<|ak<|ag ⟨rfl,af⟩) (ag rfl) af H,Ba h.wh<|ag rfl⟩
   |cons x bs=>
    have e:=h.ok.bt z;rw[hb]at e;exact⟨fN.oZ (s:=s.fR z bs) (h.ok.fR z bs ⟨ey,λy u=>e.2 y<|by simp[u]⟩) h.lv trivial h.hi k.2.1 (dV.num _),(Go.same rfl rfl rfl rfl).mono af⟩
  exact o
 exact o
theorem BQ{why:Int}(h:Rn p s t)(hn:s.nt+1<=500000000)(hk:LR p (bz s t).f k)(hi:ku p s t k why s'):Ok p s'/\Go t 1 s s':=by
 obtain⟨i,a,b,c⟩:=k;obtain⟨k0,k1,k2,k3,y,G,J,Y,k8,k9⟩:=hk;simp only at k0 k1 k2 k3 y G J Y k8 k9;have H:Ok p s/\Go t 1 s s:=⟨h.ok,(Go.same rfl rfl rfl rfl).mono af⟩;have u:∀o,xu s t o a b c why s'->Ok p s'/\Go t 1 s s':=λo ht=>by
  rcases ht with⟨_,_,rfl⟩|⟨_,_,rfl⟩
  .grind[xR]
  exact H
 have hc:=pS 22 i af
 repeat' rcases hc with rfl|hc
 .obtain⟨_,rfl⟩:=hi;grind[xR]
 .obtain⟨_,rfl⟩:=hi;exact⟨h.oZ a<|h.n9<|G af,(Go.same rfl rfl rfl rfl).mono af⟩
 .exact u 2 hi
 .exact u 3 hi
 .exact u 4 hi
 .exact u 5 hi
 .obtain⟨_,rfl⟩:=hi;grind[xR]
 .obtain⟨_,rfl⟩:=hi;exact⟨h.ok.dM h.hi rfl rfl (Y af) (λe he=>h.n9 he),(Go.same rfl rfl rfl rfl).mono af⟩
 .obtain⟨_,rfl⟩:=hi;refine⟨h.ok.dM h.hi rfl rfl ?_ (λe he=>h.n9 he),(Go.same rfl rfl rfl rfl).mono af⟩;show(if _ then _ else _)<=p.len (bz s t).f;split
  .grind
  exact h.ff.2
 .exact BI h (di _) (λv W=>by grind[dV.num]) hi.2
 .rcases hi with⟨Z,_,rfl⟩|⟨_,_,rfl⟩
  .exact⟨h.oZ a<|vq (B.px.vS (h.n9<|G af) Z.1) _,(Go.same rfl rfl rfl rfl).mono af⟩
  exact H
 .rcases hi with⟨Z,_,rfl⟩|⟨_,_,rfl⟩
  .exact⟨h.ok.uS (B.px.vS (h.n9<|y af af) Z.1)<|h.n9<|J af,(Go.same rfl rfl rfl rfl).mono af⟩
  exact H
 .exact BI h (k9 rfl) (λv W=>by grind[F.Rn.n9]) hi.2
 .obtain⟨_,rfl⟩:=hi;grind[I3]
 .obtain⟨_,rfl⟩:=hi;grind[Go.back,F.fN.back,F.Rn.ok,F.Rn.lv,F.Rn.wh,F.Rn.n9]
 .obtain⟨_,rfl⟩:=hi;grind[Ey]
 .obtain⟨_,rfl⟩:=hi;let⟨j1,_,_,_,_,_,_,_,j9,_⟩:=ja s 2 0 t;exact⟨h.ok.dX h.lv,(Go.quiet j9 j1 (iO s 2 0 t) ⟨[t],ox<|by grind[F.Rn.wh]⟩).mono af⟩
 .obtain⟨_,rfl⟩:=hi;show Ok p (jk s t a).2/\Go t 1 s (jk s t a).2;grind[jk,EA]
 .obtain⟨_,rfl⟩:=hi;grind[GB]
 .obtain⟨_,rfl⟩:=hi;grind[DH]
 .obtain⟨_,rfl⟩:=hi;show Ok p (jY s t a).2/\Go t 1 s (jY s t a).2;unfold jY;split
  .exact⟨h.ok.told 1 t _,Go.Jl (ag rfl) h.lv rfl rfl rfl rfl⟩
  exact H
 .obtain⟨_,rfl⟩:=hi;grind[Hz]
 obtain⟨_,rfl⟩:=hi;grind[xR]
